"""Greatest matchings, by the undirected reading."""

from bridgeward.joins import joined_rows
from bridgeward.pairings import chosen_places, pair_table, spare_and_near
from bridgeward.rows import edges_within, is_label_row, is_node_row, labelled_edges
from bridgeward.values import has_parts, is_number


def matching_size(graph):
    """The greatest number of edges of a matching."""
    return pair_table(len(graph), _place_pairs(graph))[-1]


def unlike_ended(graph):
    """The edges that are no loops."""
    return [edge for edge in graph.edges if edge[1] != edge[2]]


def _place_pairs(graph):
    """The places of both ends of each edge that is no loop."""
    return [(graph.place(edge[1]), graph.place(edge[2])) for edge in unlike_ended(graph)]


def greatest_matching(graph):
    """The labels of a matching of as many edges as can be."""
    edges = unlike_ended(graph)
    return tuple([edges[place][0] for place in chosen_places(len(graph), _place_pairs(graph))])


def barrier(graph):
    """Nodes without which there are so many odd parts that no matching can be greater."""
    _, near = spare_and_near(len(graph), _place_pairs(graph))
    return tuple([graph.nodes[number] for number in near])


def matching_claim(graph):
    """The claim of the greatest number."""
    return ("matching", matching_size(graph))


def matching_warrant(graph):
    """Some warrant of matching_claim(graph)."""
    return (greatest_matching(graph), barrier(graph))


def is_matching(graph, value):
    """Whether value is a row of labels of edges that are no loops and have no end in common."""
    if not is_label_row(graph, value):
        return False
    ends = [name for edge in labelled_edges(graph, value) for name in edge[1:3]]
    return len(set(ends)) == len(ends)


def odd_parts(graph, gone):
    """How many parts the graph without the nodes gone has that have an odd number of nodes."""
    names = [name for name in graph.nodes if name not in gone]
    return len([row for row in joined_rows(names, edges_within(graph, names)) if len(row) % 2 == 1])


def matching_holds(graph, claim, warrant):
    """Whether claim is the one of a matching and warrant one of its warrants."""
    if not has_parts(claim, 2) or claim[0] != "matching" or not is_number(claim[1]) or not has_parts(warrant, 2):
        return False
    labels, nodes = warrant
    if not is_matching(graph, labels) or len(labels) != claim[1] or not is_node_row(graph, nodes):
        return False
    return len(graph) + len(nodes) - odd_parts(graph, nodes) == 2 * len(labels)
