"""Flows along edges (label, tail, head, price, room), whatever their nodes are.

A flow has a number for each of the edges, and those that are made here are
lists; the keys of the steps that are left are pairs (place, sign): the place of
the edge, and 1 to send more along it or -1 to send back.
"""

from bridgeward.steps import falling_round, reached, trace


def balance(edges, flow, name):
    """What goes out at the node less what comes in there."""
    out = sum([flow[place] for place, edge in enumerate(edges) if edge[1] == name])
    return out - sum([flow[place] for place, edge in enumerate(edges) if edge[2] == name])


def carries(edges, names, s, t, amount, flow):
    """Whether so much goes out at s, and at each other of names but t as much comes in as goes out."""
    if any([balance(edges, flow, name) != 0 for name in names if name not in (s, t)]):
        return False
    return balance(edges, flow, s) == amount


def cost_of(edges, flow):
    """The sum of the numbers times the prices."""
    return sum([flow[place] * edge[3] for place, edge in enumerate(edges)])


def left_steps(edges, flow):
    """The steps along which more can be sent, or sent back."""
    steps = []
    for place, (_, tail, head, price, room) in enumerate(edges):
        if flow[place] < room:
            steps.append(((place, 1), tail, head, price))
        if flow[place] > 0:
            steps.append(((place, -1), head, tail, -price))
    return steps


def _room_along(edges, flow, keys):
    """How much can be sent along the steps with these keys."""
    return min([edges[place][4] - flow[place] if sign > 0 else flow[place] for place, sign in keys])


def _send(flow, keys, amount):
    """Send so much along the steps with these keys."""
    for place, sign in keys:
        flow[place] += sign * amount


def filled(edges, s, t, most):
    """A flow from s to t of amount most, or the greatest if that is less."""
    flow = [0] * len(edges)
    lacking = most
    while lacking > 0:
        last = reached(left_steps(edges, flow), s)
        if t not in last:
            break
        keys = trace(last, t)
        amount = min(lacking, _room_along(edges, flow, keys))
        _send(flow, keys, amount)
        lacking -= amount
    return flow


def greatest(edges, s, t):
    """A flow from s to t of the greatest amount."""
    return filled(edges, s, t, sum([edge[4] for edge in edges]))


def cheapened(edges, names, flow):
    """A cheapest flow of the amount of this one; names are the nodes of the edges."""
    cheaper = list(flow)
    keys = falling_round(left_steps(edges, cheaper), names)
    while keys:
        _send(cheaper, keys, _room_along(edges, cheaper, keys))
        keys = falling_round(left_steps(edges, cheaper), names)
    return cheaper


def reached_side(edges, flow, s):
    """The nodes to which more can be sent from s: all rooms that leave them are full."""
    return reached(left_steps(edges, flow), s)
