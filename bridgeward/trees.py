"""Cheapest trees from a node, by the directed reading."""

from bridgeward.errors import Undefined
from bridgeward.readings import price_of
from bridgeward.rows import (
    are_weighted_rows, entering_edges, in_edge_order, in_node_order, is_label_row, is_node_row, labelled_edges,
    require_nodes,
)
from bridgeward.steps import directed_steps, reached, turned
from bridgeward.values import has_parts, is_integer


def tree_price(graph, r):
    """The least price of a tree from r."""
    claim = tree_claim(graph, r)
    if claim[0] == "no tree":
        raise Undefined("tree")
    return claim[2]


def tree_claim(graph, r):
    """The true one of the two claims about trees from r."""
    if _unreached(graph, r):
        return ("no tree", r)
    labels, _ = _cheapest_tree(graph, r)
    return ("tree", r, price_of(graph, labels))


def tree_warrant(graph, r):
    """Some warrant of tree_claim(graph, r)."""
    unreached = _unreached(graph, r)
    return unreached if unreached else _cheapest_tree(graph, r)


def _unreached(graph, r):
    """The nodes to which no way leads from r, in node order."""
    require_nodes(graph, (r,))
    found = reached(directed_steps(graph.edges), r)
    return tuple([name for name in graph.nodes if name not in found])


def _closed_row(graph, tight, r):
    """As few nodes as can be, without r, that no edge of tight enters; () if there are none."""
    back = turned(directed_steps(tight))
    closed = [in_node_order(graph, reached(back, name)) for name in graph.nodes]
    return min([row for row in closed if r not in row], key=len, default=())


def _raised_rows(graph, r):
    """Rows with weights that leave no closed row, and the tight edges, as they became so.

    Of a tight edge the weights of the rows that it enters add up to its price.
    """
    left = {edge[0]: edge[3] for edge in graph.edges}
    tight = []
    rows = []
    row = _closed_row(graph, tight, r)
    while row:
        entering = entering_edges(graph, row)
        y = min([left[edge[0]] for edge in entering])
        rows.append((row, y))
        for edge in entering:
            left[edge[0]] -= y
        tight.extend([edge for edge in entering if left[edge[0]] == 0])
        row = _closed_row(graph, tight, r)
    return tuple(rows), tight


def _cheapest_tree(graph, r):
    """The labels of a cheapest tree from r, which there must be, and rows that bound its price."""
    rows, tight = _raised_rows(graph, r)
    names = [r]
    labels = []
    while len(names) < len(graph):
        # The nodes of a row are joined by edges that were tight before those
        # that enter it: to take the elder first is to enter each row just once.
        label, head = [(edge[0], edge[2]) for edge in tight if edge[1] in names and edge[2] not in names][0]
        labels.append(label)
        names.append(head)
    return (in_edge_order(graph, labels), rows)


def tree_holds(graph, claim, warrant):
    """Whether claim is one of the two and warrant one of its warrants."""
    if not isinstance(claim, tuple) or len(claim) < 2 or claim[1] not in graph:
        return False
    kind, r = claim[:2]
    if kind == "no tree" and len(claim) == 2:
        return _is_unentered(graph, r, warrant)
    if kind != "tree" or len(claim) != 3 or not is_integer(claim[2]) or not has_parts(warrant, 2):
        return False
    labels, rows = warrant
    if not _is_tree(graph, r, labels) or price_of(graph, labels) != claim[2]:
        return False
    return _rows_bound(graph, r, rows, claim[2])


def _is_unentered(graph, r, value):
    """Whether value is a row of nodes, not empty and without r, which no edge enters."""
    if not is_node_row(graph, value) or value == () or r in value:
        return False
    return not entering_edges(graph, value)


def _is_tree(graph, r, value):
    """Whether value is a row of labels of a tree from r."""
    if not is_label_row(graph, value):
        return False
    edges = labelled_edges(graph, value)
    if sorted([r] + [edge[2] for edge in edges]) != sorted(graph.nodes):
        return False
    return len(reached(directed_steps(edges), r)) == len(graph)


def _rows_bound(graph, r, rows, price):
    """Whether rows have weights from which no tree from r can have a lower price."""
    if not are_weighted_rows(graph, rows) or sum([y for _, y in rows]) != price:
        return False
    if any([r in row or len(row) > 1 and y <= 0 for row, y in rows]):
        return False
    return all([_weight_entered(rows, edge) <= edge[3] for edge in graph.edges if edge[2] not in (r, edge[1])])


def _weight_entered(rows, edge):
    """The sum of the weights of those rows that the edge enters."""
    return sum([y for row, y in rows if edge[2] in row and edge[1] not in row])
