"""Holes and colours, by the undirected reading.

Two nodes are neighbours if they are unlike and an edge joins them.
"""

from bridgeward.errors import Undefined
from bridgeward.rows import in_node_order, is_node_row
from bridgeward.steps import reached, trace
from bridgeward.values import has_parts, is_number

NO_HOLE = ("no hole",)
HOLE = ("hole",)
COLOURS = "colours"
SHORTEST_HOLE = 4


def _neighbours(graph):
    """For each node its neighbours, in node order."""
    ends = [edge[1:3] for edge in graph.edges if edge[1] != edge[2]]
    return {name: [other for other in graph.nodes if (name, other) in ends or (other, name) in ends]
            for name in graph.nodes}


def _are_mutual(beside, names):
    """Whether all of names are neighbours of one another."""
    return all([other == name or other in beside[name] for name in names for other in names])


def first_elimination(graph):
    """The row in which each node is the first whose neighbours among those left are neighbours of one another."""
    beside = _neighbours(graph)
    row = []
    left = list(graph.nodes)
    while left:
        free = [name for name in left if _are_mutual(beside, [other for other in left if other in beside[name]])]
        if not free:
            raise Undefined("order")
        row.append(free[0])
        left.remove(free[0])
    return tuple(row)


def _around(beside, name, one, other):
    """A shortest row of nodes from one to other past all further neighbours of name, () if there is none.

    These two are neighbours of name themselves, but not of one another.
    """
    free = [here for here in beside if here in (one, other) or here != name and here not in beside[name]]
    steps = [(there, here, there, 0) for here in free for there in beside[here] if there in free]
    last = reached(steps, one)
    return (one,) + trace(last, other) if other in last else ()


def _some_hole(graph):
    """A hole, or () if there is none."""
    beside = _neighbours(graph)
    for name in graph.nodes:
        for one in beside[name]:
            for other in beside[name]:
                row = () if other == one or other in beside[one] else _around(beside, name, one, other)
                if row:
                    # In a shortest row no two are neighbours but those that follow one another.
                    return (name,) + row
    return ()


def hole_claim(graph):
    """The true one of the two claims about holes."""
    return HOLE if _some_hole(graph) else NO_HOLE


def hole_warrant(graph):
    """Some warrant of hole_claim(graph)."""
    found = _some_hole(graph)
    return found if found else first_elimination(graph)


def hole_holds(graph, claim, warrant):
    """Whether claim is one of the two and warrant one of its warrants."""
    if claim == NO_HOLE:
        return _is_elimination(graph, warrant)
    return claim == HOLE and _is_hole(graph, warrant)


def _is_elimination(graph, value):
    """Whether value is a row of all nodes, of each the neighbours behind it being neighbours of one another."""
    if not has_parts(value, len(graph)) or in_node_order(graph, value) != graph.nodes:
        return False
    beside = _neighbours(graph)
    return all([_are_mutual(beside, _behind(beside, value, at)) for at in range(len(value))])


def _behind(beside, row, at):
    """Those neighbours of the node at this place of the row that come behind it."""
    return [name for name in row[at + 1:] if name in beside[row[at]]]


def _is_hole(graph, value):
    """Whether value is a row of at least four unlike nodes that are neighbours just where they follow round."""
    if not isinstance(value, tuple) or len(value) < SHORTEST_HOLE:
        return False
    if len(in_node_order(graph, value)) != len(value):
        return False
    beside = _neighbours(graph)
    following = dict(zip(value, value[1:] + value[:1]))
    for one in value:
        for other in value:
            if (other in beside[one]) != (following[one] == other or following[other] == one):
                return False
    return True


def _can_be_coloured(beside, numbers, left, many):
    """Whether the nodes left can have numbers below many, too; numbers has those of the others."""
    if not left:
        return True
    name = left[0]
    taken = [numbers[other] for other in beside[name] if other in numbers]
    # Numbers that none has yet are all alike: it is enough to try the least of them.
    fresh = max(numbers.values(), default=-1) + 1
    for number in range(min(fresh + 1, many)):
        if number not in taken and _can_be_coloured(beside, {**numbers, name: number}, left[1:], many):
            return True
    return False


def colours(graph):
    """The least number of numbers of which neighbours can have unlike ones."""
    beside = _neighbours(graph)
    many = 0
    while not _can_be_coloured(beside, {}, graph.nodes, many):
        many += 1
    return many


def colours_claim(graph):
    """The claim of the least number, if there is no hole."""
    first_elimination(graph)
    return (COLOURS, colours(graph))


def colours_warrant(graph):
    """Some warrant of colours_claim(graph)."""
    order = first_elimination(graph)
    beside = _neighbours(graph)
    numbers = {}
    for name in order[::-1]:
        taken = [numbers[other] for other in beside[name] if other in numbers]
        numbers[name] = min([number for number in range(len(order)) if number not in taken])
    # Those behind a node had all numbers below its own, for the least was taken: so many are mutual.
    mutual = [(order[at], *_behind(beside, order, at)) for at in range(len(order))]
    nodes = in_node_order(graph, max(mutual, key=len, default=()))
    return (tuple([numbers[name] for name in graph.nodes]), nodes, order)


def colours_holds(graph, claim, warrant):
    """Whether claim is the one of colours and warrant one of its warrants."""
    if not has_parts(claim, 2) or claim[0] != COLOURS or not is_number(claim[1]) or not has_parts(warrant, 3):
        return False
    numbers, nodes, order = warrant
    if not _are_colours(graph, numbers, claim[1]) or not _is_elimination(graph, order):
        return False
    return is_node_row(graph, nodes) and len(nodes) == claim[1] and _are_mutual(_neighbours(graph), nodes)


def _are_colours(graph, value, many):
    """Whether value has a number below many for each node, unlike ones for neighbours."""
    if not has_parts(value, len(graph)) or not all([is_number(number) and number < many for number in value]):
        return False
    at = dict(zip(graph.nodes, value))
    return all([at[tail] != at[head] for _, tail, head in [edge[:3] for edge in graph.edges] if tail != head])
