"""Ways apart, by the directed reading: without common edges, or common nodes."""

from bridgeward.errors import InvalidQuestion, Undefined
from bridgeward.flows import require_ends
from bridgeward.networks import balance, greatest, reached_side
from bridgeward.readings import is_way
from bridgeward.rows import in_node_order, is_node_row, is_side, joins_unlike_nodes, leaving_edges
from bridgeward.values import has_parts, is_number

EDGE_WAYS = "edge ways"
NODE_WAYS = "node ways"


def edge_ways(graph, s, t):
    """The greatest number of ways from s to t without common edges."""
    require_ends(graph, s, t)
    edges = _single_edges(graph)
    return balance(edges, greatest(edges, s, t), s)


def node_ways(graph, s, t):
    """The greatest number of ways from s to t without other common nodes."""
    _require_no_edge(graph, s, t)
    edges = _split_edges(graph, s, t)
    return balance(edges, greatest(edges, (s, 1), (t, 0)), (s, 1))


def first_joining(graph, s, t):
    """The label of the first edge in edge order that leads from s to t, or None if none does."""
    for edge in graph.edges:
        if edge[1:3] == (s, t):
            return edge[0]
    return None


def _require_no_edge(graph, s, t):
    """Raise what is due unless s and t are unlike nodes without an edge from s to t."""
    require_ends(graph, s, t)
    if first_joining(graph, s, t) is not None:
        raise Undefined("ways")


def _single_edges(graph):
    """The edges, each with room for one way."""
    return [(label, tail, head, 0, 1) for label, tail, head in [edge[:3] for edge in graph.edges]]


def _split_edges(graph, s, t):
    """The edges from (tail, 1) to (head, 0), then for each inner node the edge through it.

    Only the latter have room for just one way, so what is full is nodes alone.
    """
    ample = len(graph)
    outer = [(label, (tail, 1), (head, 0), 0, ample) for label, tail, head in [edge[:3] for edge in graph.edges]]
    inner = [name for name in graph.nodes if name not in (s, t)]
    return outer + [(name, (name, 0), (name, 1), 0, 1) for name in inner]


def _single_ways(graph, flow, s, t, many):
    """So many ways from s to t by edges that the flow uses, each edge in one at most."""
    used = [edge for place, edge in enumerate(graph.edges) if flow[place] > 0]
    ways = []
    for _ in range(many):
        labels = []
        here = s
        while here != t:
            edge = used.pop([edge[1] for edge in used].index(here))
            labels.append(edge[0])
            here = edge[2]
        ways.append(tuple(labels))
    return tuple(ways)


def ways_claim(graph, kind, s, t):
    """The claim of this kind about ways from s to t."""
    if kind == EDGE_WAYS:
        return (EDGE_WAYS, s, t, edge_ways(graph, s, t))
    if kind == NODE_WAYS:
        return (NODE_WAYS, s, t, node_ways(graph, s, t))
    raise InvalidQuestion(kind)


def ways_warrant(graph, kind, s, t):
    """Some warrant of ways_claim(graph, kind, s, t)."""
    if kind == EDGE_WAYS:
        return _edge_warrant(graph, s, t)
    if kind == NODE_WAYS:
        return _node_warrant(graph, s, t)
    raise InvalidQuestion(kind)


def _edge_warrant(graph, s, t):
    """Ways without common edges, and a side that as many edges leave."""
    require_ends(graph, s, t)
    edges = _single_edges(graph)
    flow = greatest(edges, s, t)
    ways = _single_ways(graph, flow, s, t, balance(edges, flow, s))
    return (ways, in_node_order(graph, reached_side(edges, flow, s)))


def _node_warrant(graph, s, t):
    """Ways without common nodes, as many nodes, and a side that is left by these alone."""
    _require_no_edge(graph, s, t)
    edges = _split_edges(graph, s, t)
    flow = greatest(edges, (s, 1), (t, 0))
    ways = _single_ways(graph, flow, s, t, balance(edges, flow, (s, 1)))
    found = reached_side(edges, flow, (s, 1))
    side = tuple([name for name in graph.nodes if (name, 1) in found])
    full = tuple([name for name in graph.nodes if (name, 0) in found and name not in side])
    return (ways, full, side)


def ways_hold(graph, claim, warrant):
    """Whether claim is about ways apart and warrant one of its warrants."""
    if not joins_unlike_nodes(graph, claim) or len(claim) != 4 or not is_number(claim[3]):
        return False
    kind, s, t, k = claim
    if kind == EDGE_WAYS:
        return _edge_ways_hold(graph, s, t, k, warrant)
    if kind == NODE_WAYS and first_joining(graph, s, t) is None:
        return _node_ways_hold(graph, s, t, k, warrant)
    return False


def _are_ways(graph, s, t, k, value):
    """Whether value is a tuple of k ways from s to t."""
    return has_parts(value, k) and all([is_way(graph, s, t, labels) for labels in value])


def _edge_ways_hold(graph, s, t, k, warrant):
    """Whether warrant is k ways without common edges and a side that k edges leave."""
    if not has_parts(warrant, 2):
        return False
    ways, side = warrant
    if not _are_ways(graph, s, t, k, ways) or not is_side(graph, s, t, side):
        return False
    used = [label for labels in ways for label in labels]
    return len(set(used)) == len(used) and len(leaving_edges(graph, side)) == k


def _node_ways_hold(graph, s, t, k, warrant):
    """Whether warrant is k ways without common nodes, k nodes and a side left by these alone."""
    if not has_parts(warrant, 3):
        return False
    ways, nodes, side = warrant
    if not _are_ways(graph, s, t, k, ways) or not _are_apart(graph, s, t, ways):
        return False
    if not has_parts(nodes, k) or not is_node_row(graph, nodes) or not is_side(graph, s, t, side):
        return False
    if any([name in (s, t) or name in side for name in nodes]):
        return False
    return all([edge[2] in nodes for edge in leaving_edges(graph, side)])


def _are_apart(graph, s, t, ways):
    """Whether no node comes twice in these ways from s to t, but s and t one time in each."""
    inner = [graph[label][2] for labels in ways for label in labels[:-1]]
    return len(set(inner)) == len(inner) and s not in inner and t not in inner
