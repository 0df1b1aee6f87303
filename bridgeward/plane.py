"""Drawings in the plane, by the undirected reading."""

from bridgeward.errors import Undefined
from bridgeward.joins import joined_rows
from bridgeward.readings import degree, is_walk, labels_at, other_end
from bridgeward.rows import in_node_order
from bridgeward.turns import plane_turns, rounds_of
from bridgeward.values import has_parts

PLANE = ("plane",)
NOT_PLANE = ("not plane",)


def _labels_of_ends(graph, name):
    """The label of each end of an edge at the node, of a loop two times."""
    return [edge[0] for edge in graph.edges for end in edge[1:3] if end == name]


def _is_turn(graph, name, value):
    """Whether value is a tuple that has the label of each end at the node."""
    if not isinstance(value, tuple) or not all([isinstance(label, str) for label in value]):
        return False
    return sorted(value) == sorted(_labels_of_ends(graph, name))


def _is_drawing(graph, value):
    """Whether value is a drawing."""
    if not has_parts(value, len(graph)):
        return False
    return all([_is_turn(graph, name, labels) for name, labels in zip(graph.nodes, value)])


def _ends_in_turn(graph, name, labels):
    """The ends whose labels stand in the turn at the node, of a loop its tail's end first."""
    ends = []
    for place, label in enumerate(labels):
        tail, head = graph[label][1:3]
        if tail == head:
            ends.append((label, 1 if label in labels[:place] else 0))
        else:
            ends.append((label, 0 if tail == name else 1))
    return ends


def faces(graph, drawing):
    """The number of the drawing's faces."""
    if not _is_drawing(graph, drawing):
        raise Undefined("drawing")
    turns = {name: _ends_in_turn(graph, name, labels) for name, labels in zip(graph.nodes, drawing)}
    return len(rounds_of(turns))


def _is_plane_drawing(graph, value):
    """Whether value is a drawing that is plane."""
    if not _is_drawing(graph, value):
        return False
    names = [name for name in graph.nodes if degree(graph, name) > 0]
    parts_with_edges = joined_rows(names, graph.edges)
    return len(names) - len(graph.edges) + faces(graph, value) == 2 * len(parts_with_edges)


def plane_claim(graph):
    """The true one of the two claims about plane drawings."""
    return NOT_PLANE if plane_turns(graph) is None else PLANE


def plane_warrant(graph):
    """Some warrant of plane_claim(graph)."""
    turns = plane_turns(graph)
    if turns is None:
        return _subdivision(_least_not_plane(graph))
    return tuple([tuple([label for label, _ in turns[name]]) for name in graph.nodes])


def crossing_edges(graph):
    """The labels of the edges without which alone the graph is plane, () if it is so with them."""
    if plane_turns(graph) is not None:
        return ()
    labels = [edge[0] for edge in graph.edges]
    return tuple([label for label in labels if plane_turns(graph.without_edge(label)) is not None])


def _least_not_plane(graph):
    """The graph with just so many edges that it is not plane, but is so without any one of them."""
    least = graph
    for label in [edge[0] for edge in graph.edges]:
        smaller = least.without_edge(label)
        if plane_turns(smaller) is None:
            least = smaller
    return least


def _walk_on(graph, nodes, name, label):
    """The walk that begins at name with this label and goes on until it comes to one of nodes, and that node.

    Each node that is not among nodes must have just two edges at it, or none.
    """
    labels = (label,)
    here = other_end(graph, label, name)
    while here not in nodes:
        further = [other for other in labels_at(graph, here) if other != labels[-1]][0]
        here = other_end(graph, further, here)
        labels = labels + (further,)
    return labels, here


def _subdivision(graph):
    """The pair of nodes and walks of a graph that is a K5 or a K33 with nodes put into its edges (Kuratowski)."""
    nodes = [name for name in graph.nodes if degree(graph, name) > 2]
    walks = {}
    for name in nodes:
        for label in labels_at(graph, name):
            labels, there = _walk_on(graph, nodes, name, label)
            walks[name, there] = labels
    if len(nodes) == 6:
        across = [name for name in nodes if (nodes[0], name) in walks]
        nodes = [name for name in nodes if name not in across] + across
    return (tuple(nodes), tuple([walks[pair] for pair in _pairs_to_join(nodes)]))


def _pairs_to_join(nodes):
    """The pairs of five nodes, or of six those of a former three and a latter three, ascending by places."""
    if len(nodes) == 6:
        return [(one, other) for one in nodes[:3] for other in nodes[3:]]
    return [(one, other) for place, one in enumerate(nodes) for other in nodes[place + 1:]]


def plane_holds(graph, claim, warrant):
    """Whether claim is one of the two and warrant one of its warrants."""
    if claim == PLANE:
        return _is_plane_drawing(graph, warrant)
    if claim != NOT_PLANE or not has_parts(warrant, 2):
        return False
    nodes, walks = warrant
    if not (has_parts(nodes, 5) or has_parts(nodes, 6)) or len(in_node_order(graph, nodes)) != len(nodes):
        return False
    return _are_walks_apart(graph, nodes, walks)


def _are_walks_apart(graph, nodes, value):
    """Whether value has the walks that are due between nodes, no inner node being one of these or coming twice."""
    pairs = _pairs_to_join(nodes)
    if not has_parts(value, len(pairs)):
        return False
    if not all([is_walk(graph, one, other, labels) for (one, other), labels in zip(pairs, value)]):
        return False
    passed = list(nodes)
    for (one, _), labels in zip(pairs, value):
        here = one
        for label in labels[:-1]:
            here = other_end(graph, label, here)
            passed.append(here)
    return len(set(passed)) == len(passed)
