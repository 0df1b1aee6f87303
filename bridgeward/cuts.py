"""Least cuts and cut trees, by the undirected reading."""

from bridgeward.errors import Refused, Undefined
from bridgeward.joins import joined_rows
from bridgeward.networks import carries, greatest, reached_side
from bridgeward.rows import in_node_order, is_side, joins_unlike_nodes, require_nodes, room_across
from bridgeward.values import has_parts, is_integer, is_number

CUT_TREE = "cut tree"
LEAST_CUT = "least cut"


def _require_unlike(graph, a, b):
    """Raise what is due unless a and b are unlike nodes."""
    require_nodes(graph, (a, b))
    if a == b:
        raise Undefined("cut")


def least_cut_warrant(graph, a, b):
    """Some warrant of the claim of the least room: the most that can go from a to b, and a side whose room it fills."""
    there = list(graph.edges)
    back = [(label, head, tail, price, room) for label, tail, head, price, room in there]
    flow = greatest(there + back, a, b)
    side = in_node_order(graph, reached_side(there + back, flow, a))
    return tuple([sent - returned for sent, returned in zip(flow, flow[len(there):])]), side


def _least_side(graph, a, b):
    """A side with a, without b, of the least room."""
    _, side = least_cut_warrant(graph, a, b)
    return side


def least_cut(graph, a, b):
    """The least room of a side with a, without b."""
    _require_unlike(graph, a, b)
    return room_across(graph, _least_side(graph, a, b))


def least_cut_claim(graph, a, b):
    """The claim of the least room."""
    return (LEAST_CUT, a, b, least_cut(graph, a, b))


def least_cut_holds(graph, claim, warrant):
    """Whether claim is the one of a least cut and warrant one of its warrants."""
    if not joins_unlike_nodes(graph, claim) or len(claim) != 4 or claim[0] != LEAST_CUT:
        return False
    a, b, w = claim[1:]
    if not is_number(w) or not has_parts(warrant, 2):
        return False
    numbers, side = warrant
    if not is_side(graph, a, b, side) or room_across(graph, side) != w:
        return False
    return _goes_over(graph, a, b, w, numbers)


def _goes_over(graph, a, b, w, value):
    """Whether value tells of each edge what goes from tail to head, so that w goes from a to b."""
    if not has_parts(value, len(graph.edges)) or not all([is_integer(number) for number in value]):
        return False
    if any([abs(number) > edge[4] for number, edge in zip(value, graph.edges)]):
        return False
    return carries(graph.edges, graph.nodes, a, b, w, value)


def _tree_pairs(graph):
    """For each node but the first the node next to it in a cut tree, and the room of the cut between them.

    Each node in turn is cut off from the one it hangs at, and takes with it
    what hangs there too on its side of the cut (Gomory and Hu, Gusfield).
    """
    beside = {name: graph.nodes[0] for name in graph.nodes[1:]}
    room = {}
    for s in graph.nodes[1:]:
        t = beside[s]
        side = _least_side(graph, s, t)
        room[s] = room_across(graph, side)
        for name in side:
            if name != s and beside.get(name) == t:
                beside[name] = s
        if beside.get(t) in side:
            # What t hangs at is on the side of s, so s comes between the two.
            beside[s], beside[t] = beside[t], s
            room[s], room[t] = room[t], room[s]
    return [(name, beside[name], room[name]) for name in graph.nodes[1:]]


def cut_tree(graph):
    """Some rows for which the claim of a cut tree is true."""
    if not graph.nodes:
        raise Undefined("tree")
    placed = []
    for one, other, w in _tree_pairs(graph):
        places = sorted([graph.place(one), graph.place(other)])
        placed.append((places[0], places[1], w))
    return tuple([(graph.nodes[a], graph.nodes[b], w) for a, b, w in sorted(placed)])


def _are_tree_rows(graph, value):
    """Whether value has the form of the rows of a cut tree, and its pairs join all nodes."""
    if not has_parts(value, len(graph) - 1) or not all([_is_tree_row(graph, row) for row in value]):
        return False
    places = [(graph.place(a), graph.place(b)) for a, b, _ in value]
    if places != sorted(places):
        return False
    return len(_joined_by(graph, value)) == 1


def _is_tree_row(graph, value):
    """Whether value is a triple of two nodes in node order and a number."""
    if not has_parts(value, 3) or value[0] not in graph or value[1] not in graph:
        return False
    return graph.place(value[0]) < graph.place(value[1]) and is_number(value[2])


def _joined_by(graph, rows):
    """The sets of nodes that the pairs of these rows join."""
    return joined_rows(graph.nodes, [(at, a, b, w) for at, (a, b, w) in enumerate(rows)])


def _tree_side(graph, rows, row):
    """The nodes that the pairs of all rows but this one join with its first node."""
    others = [other for other in rows if other != row]
    return [names for names in _joined_by(graph, others) if row[0] in names][0]


def _rooms_fit(graph, rows):
    """Whether for each of the rows the set that the others join with its first node has its room."""
    return all([room_across(graph, _tree_side(graph, rows, row)) == row[2] for row in rows])


def cut_tree_warrant(graph, rows):
    """Some warrant of the claim with these rows."""
    if not _are_tree_rows(graph, rows) or not _rooms_fit(graph, rows):
        raise Refused((CUT_TREE, rows))
    if any([least_cut(graph, a, b) != w for a, b, w in rows]):
        raise Refused((CUT_TREE, rows))
    return tuple([least_cut_warrant(graph, a, b)[0] for a, b, _ in rows])


def cut_tree_holds(graph, claim, warrant):
    """Whether claim is the one of a cut tree and warrant one of its warrants."""
    if not has_parts(claim, 2) or claim[0] != CUT_TREE or not _are_tree_rows(graph, claim[1]):
        return False
    rows = claim[1]
    if not has_parts(warrant, len(rows)) or not _rooms_fit(graph, rows):
        return False
    return all([_goes_over(graph, a, b, w, numbers) for (a, b, w), numbers in zip(rows, warrant)])
