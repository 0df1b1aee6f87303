"""Cheapest flows, by the directed reading, and the warrants of all flows."""

from bridgeward.errors import InvalidNumber, Undefined
from bridgeward.flows import require_ends
from bridgeward.networks import balance, carries, cheapened, cost_of, filled, left_steps, reached_side
from bridgeward.rows import in_node_order, is_side, joins_unlike_nodes, leaving_edges
from bridgeward.steps import least_prices
from bridgeward.values import has_parts, is_integer, is_number


def cheapest_flow(graph, s, t, amount):
    """The least cost of a flow of this amount from s to t."""
    claim = cheapest_claim(graph, s, t, amount)
    if claim[0] == "no flow":
        raise Undefined("amount")
    return claim[4]


def _filled_flow(graph, s, t, amount):
    """A flow of this amount, or of the greatest if that is less."""
    require_ends(graph, s, t)
    if not is_number(amount):
        raise InvalidNumber(amount)
    return filled(graph.edges, s, t, amount)


def cheapest_claim(graph, s, t, amount):
    """The true claim about flows of this amount."""
    flow = _filled_flow(graph, s, t, amount)
    if balance(graph.edges, flow, s) < amount:
        return ("no flow", s, t, amount)
    cheapest = cheapened(graph.edges, graph.nodes, flow)
    return ("cheapest", s, t, amount, cost_of(graph.edges, cheapest))


def cheapest_warrant(graph, s, t, amount):
    """Some warrant of cheapest_claim(graph, s, t, amount)."""
    flow = _filled_flow(graph, s, t, amount)
    if balance(graph.edges, flow, s) < amount:
        return in_node_order(graph, reached_side(graph.edges, flow, s))
    cheapest = cheapened(graph.edges, graph.nodes, flow)
    best, _ = least_prices(left_steps(graph.edges, cheapest), graph.nodes)
    return (tuple(cheapest), tuple([best[name] for name in graph.nodes]))


def flow_holds(graph, claim, warrant):
    """Whether claim is about flows and warrant one of its warrants."""
    if not joins_unlike_nodes(graph, claim) or len(claim) < 4 or not is_number(claim[3]):
        return False
    kind, s, t, k = claim[:4]
    if kind == "cheapest" and len(claim) == 5:
        return is_integer(claim[4]) and _cheapest_holds(graph, s, t, k, claim[4], warrant)
    if kind == "flow" and len(claim) == 4:
        return _flow_and_side_hold(graph, s, t, k, warrant)
    if kind == "no flow" and len(claim) == 4:
        return is_side(graph, s, t, warrant) and _leaving_room(graph, warrant) < k
    return False


def _leaving_room(graph, side):
    """The sum of the rooms of the edges that leave side."""
    return sum([edge[4] for edge in leaving_edges(graph, side)])


def _is_flow(graph, s, t, k, value):
    """Whether value is a flow of amount k from s to t."""
    if not has_parts(value, len(graph.edges)):
        return False
    if not all([is_number(sent) and sent <= edge[4] for sent, edge in zip(value, graph.edges)]):
        return False
    return carries(graph.edges, graph.nodes, s, t, k, value)


def _flow_and_side_hold(graph, s, t, k, warrant):
    """Whether warrant is a flow of amount k and a side of just that room."""
    if not has_parts(warrant, 2):
        return False
    flow, side = warrant
    if not _is_flow(graph, s, t, k, flow) or not is_side(graph, s, t, side):
        return False
    return _leaving_room(graph, side) == k


def _cheapest_holds(graph, s, t, k, c, warrant):
    """Whether warrant is a flow of amount k and cost c and marks that bound it."""
    if not has_parts(warrant, 2):
        return False
    flow, marks = warrant
    if not _is_flow(graph, s, t, k, flow) or cost_of(graph.edges, flow) != c:
        return False
    if not has_parts(marks, len(graph)) or not all([is_integer(mark) for mark in marks]):
        return False
    at = dict(zip(graph.nodes, marks))
    return all([at[head] <= at[tail] + price for _, tail, head, price in left_steps(graph.edges, flow)])
