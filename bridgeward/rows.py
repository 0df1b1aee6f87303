"""Rows and sides of nodes, and rows of labels, as questions and warrants name them."""

from bridgeward.errors import UnknownNode
from bridgeward.values import has_parts, is_integer


def require_nodes(graph, names):
    """Raise UnknownNode with the first of names that is no node."""
    for name in names:
        if name not in graph:
            raise UnknownNode(name)


def in_node_order(graph, names):
    """The nodes that are among names (a list, a tuple or a dict), in node order."""
    return tuple([name for name in graph.nodes if name in names])


def is_node_row(graph, value):
    """Whether value is a tuple of nodes in node order, none twice."""
    return isinstance(value, tuple) and value == in_node_order(graph, value)


def in_edge_order(graph, labels):
    """The labels of edges that are among labels (a list, a tuple or a dict), in edge order."""
    return tuple([edge[0] for edge in graph.edges if edge[0] in labels])


def is_label_row(graph, value):
    """Whether value is a tuple of labels in edge order, none twice."""
    return isinstance(value, tuple) and value == in_edge_order(graph, value)


def labelled_edges(graph, labels):
    """The edges whose labels are among labels, in edge order."""
    return [edge for edge in graph.edges if edge[0] in labels]


def is_side(graph, s, t, value):
    """Whether value is a row of nodes with s, without t."""
    return is_node_row(graph, value) and s in value and t not in value


def leaving_edges(graph, side):
    """The edges that lead from a node of side to one that is not in it."""
    return [edge for edge in graph.edges if edge[1] in side and edge[2] not in side]


def entering_edges(graph, side):
    """The edges that lead to a node of side from one that is not in it."""
    return [edge for edge in graph.edges if edge[2] in side and edge[1] not in side]


def edges_across(graph, side):
    """The edges that have one end in side and one that is not in it."""
    return [edge for edge in graph.edges if (edge[1] in side) != (edge[2] in side)]


def room_across(graph, side):
    """The room of the side: the sum of the rooms of the edges that have just one end in it."""
    return sum([edge[4] for edge in edges_across(graph, side)])


def edges_within(graph, side):
    """The edges that have both ends in side."""
    return [edge for edge in graph.edges if edge[1] in side and edge[2] in side]


def joins_unlike_nodes(graph, claim):
    """Whether claim is a tuple of a word and two unlike nodes, or begins so."""
    if not isinstance(claim, tuple) or len(claim) < 3:
        return False
    s, t = claim[1:3]
    return s in graph and t in graph and s != t


def are_filled_rows(graph, value):
    """Whether value is a tuple of rows of nodes, none of them empty."""
    if not isinstance(value, tuple):
        return False
    return all([is_node_row(graph, row) and row != () for row in value])


def is_parting(graph, value):
    """Whether value parts the nodes: filled rows by their first nodes, each node in just one."""
    if not are_filled_rows(graph, value) or not is_node_row(graph, tuple([row[0] for row in value])):
        return False
    return sorted([name for row in value for name in row]) == sorted(graph.nodes)


def are_weighted_rows(graph, value):
    """Whether value is a tuple of pairs of a row and an integer, the rows unlike and none empty."""
    if not isinstance(value, tuple) or not all([has_parts(pair, 2) for pair in value]):
        return False
    rows = tuple([pair[0] for pair in value])
    if not are_filled_rows(graph, rows) or not all([is_integer(pair[1]) for pair in value]):
        return False
    return len(set(rows)) == len(rows)
