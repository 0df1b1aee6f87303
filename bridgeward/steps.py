"""Ways along steps; a step is a tuple (key, tail, head, price).

Edges give steps by either reading, their keys being the labels; a flow gives
those along which more can be sent or sent back. The tables of last steps that are returned here
have for each node the step that led to it, None where a search began.
"""


def directed_steps(edges):
    """The steps of the edges by the directed reading."""
    return [edge[:4] for edge in edges]


def turned(steps):
    """The same steps from head to tail."""
    return [(key, head, tail, price) for key, tail, head, price in steps]


def walk_steps(edges):
    """The steps of the edges by the undirected reading: from either end to the other."""
    steps = directed_steps(edges)
    return steps + turned(steps)


def reached(steps, start):
    """The last steps to all nodes that can be reached, by the fewest steps."""
    last = {start: None}
    waiting = [start]
    while waiting:
        here = waiting.pop(0)
        for step in steps:
            if step[1] == here and step[2] not in last:
                last[step[2]] = step
                waiting.append(step[2])
    return last


def trace(last, end):
    """The keys of the steps that led to end from where the search began."""
    keys = []
    step = last[end]
    while step is not None:
        keys.append(step[0])
        step = last[step[1]]
    return tuple(keys[::-1])


def _lower(steps, best, last):
    """Lower what can be had for less by one step; a node lowered, or None."""
    lowered = None
    for step in steps:
        tail, head, price = step[1:]
        if tail in best and (head not in best or best[tail] + price < best[head]):
            best[head] = best[tail] + price
            last[head] = step
            lowered = head
    return lowered


def least_prices(steps, starts):
    """The least price to each node from any of starts, and the last steps.

    The steps must have no round of price below 0.
    """
    best = {name: 0 for name in starts}
    last = {name: None for name in starts}
    while _lower(steps, best, last) is not None:
        pass
    return best, last


def _keys_around(last, name):
    """The keys of the steps that led round from name to itself."""
    keys = [last[name][0]]
    here = last[name][1]
    while here != name:
        keys.append(last[here][0])
        here = last[here][1]
    return tuple(keys[::-1])


def falling_round(steps, names):
    """The keys of a round of price below 0, or () if there is none.

    names are the nodes of the steps.
    """
    best = {name: 0 for name in names}
    last = {name: None for name in names}
    lowered = None
    for _ in names:
        lowered = _lower(steps, best, last)
        if lowered is None:
            return ()
    # What falls for the last time of so many was lowered by as many steps one
    # behind the other: going back by them all must end within a round.
    for _ in names:
        lowered = last[lowered][1]
    return _keys_around(last, lowered)
