"""Least prices of ways, by the directed reading."""

from bridgeward.errors import Undefined
from bridgeward.readings import is_way, price_of
from bridgeward.rows import in_node_order, is_side, leaving_edges, require_nodes
from bridgeward.steps import directed_steps, falling_round, least_prices, reached, trace, turned
from bridgeward.values import has_parts, is_integer

BEFORE = "before"
PAST = "past"


def distance(graph, s, t):
    """The least price of a way from s to t."""
    claim = way_claim(graph, s, t)
    if claim[0] == "no way":
        raise Undefined("way")
    if claim[0] == "ever less":
        raise Undefined("least")
    return claim[3]


def distances(graph, s):
    """For each node the least price from s, None without a way, or "less"."""
    require_nodes(graph, (s,))
    told = []
    for t in graph.nodes:
        claim = way_claim(graph, s, t)
        if claim[0] == "no way":
            told.append(None)
        else:
            told.append("less" if claim[0] == "ever less" else claim[3])
    return tuple(told)


def _nodes_between(graph, s, t):
    """The nodes that are on ways from s to t, in node order."""
    steps = directed_steps(graph.edges)
    behind = reached(steps, s)
    ahead = reached(turned(steps), t)
    return [name for name in graph.nodes if name in behind and name in ahead]


def _steps_within(graph, names):
    """The steps that have both ends among names."""
    return [step for step in directed_steps(graph.edges) if step[1] in names and step[2] in names]


def way_claim(graph, s, t):
    """The true one of the three claims about ways from s to t."""
    require_nodes(graph, (s, t))
    names = _nodes_between(graph, s, t)
    if not names:
        return ("no way", s, t)
    steps = _steps_within(graph, names)
    if falling_round(steps, names):
        return ("ever less", s, t)
    best, _ = least_prices(steps, (s,))
    return ("distance", s, t, best[t])


def way_warrant(graph, s, t):
    """Some warrant of way_claim(graph, s, t)."""
    require_nodes(graph, (s, t))
    names = _nodes_between(graph, s, t)
    behind = reached(directed_steps(graph.edges), s)
    if not names:
        return in_node_order(graph, behind)
    steps = _steps_within(graph, names)
    falling = falling_round(steps, names)
    if falling:
        u = graph[falling[0]][1]
        return (trace(behind, u), falling, trace(reached(steps, u), t))
    best, last = least_prices(steps, (s,))
    marks = [best.get(name, PAST if name in behind else BEFORE) for name in graph.nodes]
    return (trace(last, t), tuple(marks))


def way_holds(graph, claim, warrant):
    """Whether claim is one of the three and warrant one of its warrants."""
    if has_parts(claim, 4) and claim[0] == "distance":
        s, t, d = claim[1:]
        return s in graph and t in graph and is_integer(d) and _distance_holds(graph, s, t, d, warrant)
    if not has_parts(claim, 3) or claim[1] not in graph or claim[2] not in graph:
        return False
    kind, s, t = claim
    if kind == "no way":
        return is_side(graph, s, t, warrant) and not leaving_edges(graph, warrant)
    return kind == "ever less" and _ever_less_holds(graph, s, t, warrant)


def _ever_less_holds(graph, s, t, warrant):
    """Whether warrant leads from s over a round of price below 0 to t."""
    if not has_parts(warrant, 3):
        return False
    there, falling, back = warrant
    for u in graph.nodes:
        if is_way(graph, s, u, there) and is_way(graph, u, u, falling) and is_way(graph, u, t, back):
            return price_of(graph, falling) < 0
    return False


def _distance_holds(graph, s, t, d, warrant):
    """Whether warrant has a way from s to t of price d and marks that bound it."""
    if not has_parts(warrant, 2):
        return False
    labels, marks = warrant
    if not is_way(graph, s, t, labels) or price_of(graph, labels) != d:
        return False
    return _marks_hold(graph, s, t, d, marks)


def _marks_hold(graph, s, t, d, marks):
    """Whether marks tell that no way from s to t has a price below d."""
    if not has_parts(marks, len(graph)):
        return False
    if not all([is_integer(mark) or mark in (BEFORE, PAST) for mark in marks]):
        return False
    at = dict(zip(graph.nodes, marks))
    if not is_integer(at[s]) or not is_integer(at[t]) or at[t] - at[s] != d:
        return False
    return all([_step_fits(at[tail], at[head], price) for _, tail, head, price in directed_steps(graph.edges)])


def _step_fits(tail_mark, head_mark, price):
    """Whether an edge of this price may lead from the one mark to the other."""
    if head_mark == BEFORE:
        return tail_mark == BEFORE
    if tail_mark == PAST:
        return head_mark == PAST
    if tail_mark == BEFORE or head_mark == PAST:
        return True
    return head_mark <= tail_mark + price
