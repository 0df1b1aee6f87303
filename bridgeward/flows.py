"""Greatest flows, by the directed reading."""

from bridgeward.errors import Undefined
from bridgeward.networks import balance, greatest, reached_side
from bridgeward.rows import in_node_order, require_nodes


def require_ends(graph, s, t):
    """Raise what is due unless s and t are unlike nodes."""
    require_nodes(graph, (s, t))
    if s == t:
        raise Undefined("flow")


def greatest_flow(graph, s, t):
    """The greatest amount of a flow from s to t."""
    require_ends(graph, s, t)
    return balance(graph.edges, greatest(graph.edges, s, t), s)


def flow_claim(graph, s, t):
    """The claim of the greatest amount."""
    return ("flow", s, t, greatest_flow(graph, s, t))


def flow_warrant(graph, s, t):
    """Some warrant of flow_claim(graph, s, t)."""
    require_ends(graph, s, t)
    flow = greatest(graph.edges, s, t)
    return (tuple(flow), in_node_order(graph, reached_side(graph.edges, flow, s)))
