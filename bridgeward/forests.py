"""Cheapest spanning forests, by the undirected reading."""

from bridgeward.joins import grown_forest, joined_rows
from bridgeward.readings import price_of
from bridgeward.rows import in_edge_order, is_label_row, labelled_edges
from bridgeward.steps import reached, trace, walk_steps
from bridgeward.values import has_parts, is_integer


def _price(edge):
    """The price of the edge."""
    return edge[3]


def forest_price(graph):
    """The least price of a spanning forest."""
    return price_of(graph, first_forest(graph))


def first_forest(graph):
    """The labels of the spanning forest that takes the cheapest edges first, in edge order."""
    # The sort keeps edges of one price in edge order.
    return in_edge_order(graph, grown_forest(graph.nodes, sorted(graph.edges, key=_price)))


def forest_claim(graph):
    """The claim of the least price."""
    return ("forest", forest_price(graph))


def forest_warrant(graph):
    """Some warrant of forest_claim(graph)."""
    return first_forest(graph)


def forest_holds(graph, claim, warrant):
    """Whether claim is the one of a forest and warrant one of its warrants."""
    if not has_parts(claim, 2) or claim[0] != "forest" or not is_integer(claim[1]):
        return False
    if not is_label_row(graph, warrant) or price_of(graph, warrant) != claim[1]:
        return False
    return _spans(graph, warrant) and _is_cheapest(graph, warrant)


def _spans(graph, labels):
    """Whether labels are those of a forest that joins whichever nodes are joined."""
    rows = joined_rows(graph.nodes, labelled_edges(graph, labels))
    # No fewer edges could join so many nodes, so no circle can be made of them.
    return len(labels) == len(graph) - len(rows) and rows == joined_rows(graph.nodes, graph.edges)


def _is_cheapest(graph, labels):
    """Whether no edge is cheaper than one on the walk between its ends in the forest."""
    steps = walk_steps(labelled_edges(graph, labels))
    for tail, head, price in [edge[1:4] for edge in graph.edges]:
        passed = trace(reached(steps, tail), head)
        if any([edge[3] > price for edge in labelled_edges(graph, passed)]):
            return False
    return True
