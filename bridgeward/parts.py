"""Parts, bridges and cut nodes, by the undirected reading."""

from bridgeward.errors import InvalidQuestion
from bridgeward.joins import grown_forest, is_tree_over, joined_nodes, joined_rows
from bridgeward.readings import is_circle
from bridgeward.rows import edges_across, edges_within, in_node_order, is_node_row, is_parting
from bridgeward.steps import reached, trace, walk_steps
from bridgeward.values import has_parts

PARTS = "parts"
BRIDGES = "bridges"
CUT_NODES = "cut nodes"
SIDE = "side"
CIRCLE = "circle"
TREE = "tree"


def parts(graph):
    """The sets of joined nodes, by their first nodes."""
    return joined_rows(graph.nodes, graph.edges)


def bridges(graph):
    """The labels of the bridges, in edge order."""
    return tuple([edge[0] for edge in graph.edges if _edge_member(graph, edge)[0] == SIDE])


def cut_nodes(graph):
    """The cut nodes, in node order."""
    return tuple([name for name in graph.nodes if _node_member(graph, name)[0] == SIDE])


def _tree_within(graph, names):
    """The labels of a tree over names that are joined by the edges within."""
    return grown_forest(names, edges_within(graph, names))


def _edge_member(graph, edge):
    """A side that the edge alone crosses, or else a circle that has it."""
    label, tail, head = edge[:3]
    last = reached(walk_steps([other for other in graph.edges if other != edge]), tail)
    if head in last:
        return (CIRCLE, tail, trace(last, head) + (label,))
    return (SIDE, in_node_order(graph, last))


def _others_joined(graph, name):
    """The nodes that are joined with this one, without itself."""
    return tuple([other for other in joined_nodes(graph, name) if other != name])


def _node_member(graph, name):
    """A side that is left through the node alone, or else a tree of the others."""
    others = _others_joined(graph, name)
    rows = joined_rows(others, edges_within(graph, others))
    if len(rows) > 1:
        return (SIDE, rows[0])
    return (TREE, _tree_within(graph, others))


def cut_claim(graph, kind):
    """The true claim of this kind."""
    if kind == PARTS:
        return (PARTS, parts(graph))
    if kind == BRIDGES:
        return (BRIDGES, bridges(graph))
    if kind == CUT_NODES:
        return (CUT_NODES, cut_nodes(graph))
    raise InvalidQuestion(kind)


def cut_warrant(graph, kind):
    """Some warrant of cut_claim(graph, kind)."""
    if kind == PARTS:
        return tuple([_tree_within(graph, row) for row in parts(graph)])
    if kind == BRIDGES:
        return tuple([_edge_member(graph, edge) for edge in graph.edges])
    if kind == CUT_NODES:
        return tuple([_node_member(graph, name) for name in graph.nodes])
    raise InvalidQuestion(kind)


def cut_holds(graph, claim, warrant):
    """Whether claim is of one of the three kinds and warrant one of its warrants."""
    if not has_parts(claim, 2):
        return False
    kind, told = claim
    if kind == PARTS:
        return _parts_hold(graph, told, warrant)
    if kind == BRIDGES:
        return _bridges_hold(graph, told, warrant)
    return kind == CUT_NODES and _cut_nodes_hold(graph, told, warrant)


def _parts_hold(graph, rows, warrant):
    """Whether warrant has a tree over each of the rows, and no edge joins two of them."""
    if not is_parting(graph, rows) or not has_parts(warrant, len(rows)):
        return False
    if any([edges_across(graph, row) for row in rows]):
        return False
    return all([is_tree_over(graph, row, labels) for row, labels in zip(rows, warrant)])


def _bridges_hold(graph, labels, warrant):
    """Whether warrant has a side for each of the labels, a circle for each other edge."""
    if not has_parts(warrant, len(graph.edges)):
        return False
    if not all([_edge_member_holds(graph, edge, member) for edge, member in zip(graph.edges, warrant)]):
        return False
    return labels == tuple([edge[0] for edge, member in zip(graph.edges, warrant) if member[0] == SIDE])


def _edge_member_holds(graph, edge, member):
    """Whether member tells of the edge that it is a bridge, or that it is none."""
    if has_parts(member, 2) and member[0] == SIDE:
        return is_node_row(graph, member[1]) and edges_across(graph, member[1]) == [edge]
    if not has_parts(member, 3) or member[0] != CIRCLE:
        return False
    return is_circle(graph, member[1], member[2]) and edge[0] in member[2]


def _cut_nodes_hold(graph, nodes, warrant):
    """Whether warrant has a side for each of nodes, a tree for each other node."""
    if not has_parts(warrant, len(graph)):
        return False
    if not all([_node_member_holds(graph, name, member) for name, member in zip(graph.nodes, warrant)]):
        return False
    return nodes == tuple([name for name, member in zip(graph.nodes, warrant) if member[0] == SIDE])


def _node_member_holds(graph, name, member):
    """Whether member tells of the node that it is a cut node, or that it is none."""
    if not has_parts(member, 2):
        return False
    others = _others_joined(graph, name)
    if member[0] == TREE:
        return is_tree_over(graph, others, member[1])
    return member[0] == SIDE and _side_holds(graph, name, others, member[1])


def _side_holds(graph, name, others, side):
    """Whether side has some of others, not all, and is left through the node alone."""
    if not is_node_row(graph, side) or not 0 < len(side) < len(others):
        return False
    if not all([other in others for other in side]):
        return False
    return all([name in edge[1:3] for edge in edges_across(graph, side)])
