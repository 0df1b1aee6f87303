"""Rows and sides of nodes, as questions and warrants name them."""

from bridgeward.errors import UnknownNode


def require_nodes(graph, names):
    """Raise UnknownNode with the first of names that is no node."""
    for name in names:
        if name not in graph:
            raise UnknownNode(name)


def in_node_order(graph, names):
    """The nodes that are among names (a list, a tuple or a dict), in node order."""
    return tuple([name for name in graph.nodes if name in names])


def is_node_row(graph, value):
    """Whether value is a tuple of nodes in node order, none twice."""
    return isinstance(value, tuple) and value == in_node_order(graph, value)


def is_side(graph, s, t, value):
    """Whether value is a row of nodes with s, without t."""
    return is_node_row(graph, value) and s in value and t not in value


def leaving_edges(graph, side):
    """The edges that lead from a node of side to one that is not in it."""
    return [edge for edge in graph.edges if edge[1] in side and edge[2] not in side]


def joins_unlike_nodes(graph, claim):
    """Whether claim is a tuple of a word and two unlike nodes, or begins so."""
    if not isinstance(claim, tuple) or len(claim) < 3:
        return False
    s, t = claim[1:3]
    return s in graph and t in graph and s != t
