"""Cheapest perfect matchings, by the undirected reading.

Worths bound their price from below: a dict has a worth for each node, as a row
by itself, and for rows of more nodes, an odd number, one above 0. Each perfect
matching leaves each of these rows. So if for no edge the worths of those that
it leaves add up to more than twice its price, all worths together are at most
twice the price of any perfect matching.
"""

from bridgeward.errors import Undefined
from bridgeward.joins import joined_rows
from bridgeward.matchings import barrier, is_matching, odd_parts, unlike_ended
from bridgeward.pairings import spare_and_near
from bridgeward.readings import price_of
from bridgeward.rows import are_weighted_rows, in_edge_order, in_node_order, is_node_row
from bridgeward.values import has_parts, is_integer


def perfect_price(graph):
    """The least price of a perfect matching."""
    claim = perfect_claim(graph)
    if claim[0] == "no perfect":
        raise Undefined("matching")
    return claim[1]


def _cheapest(edges, names):
    """The price and labels of a cheapest matching by these edges of all names and no others, or None."""
    if not names:
        return (0, [])
    found = []
    for label, tail, head, price, _ in edges:
        if names[0] in (tail, head) and tail in names and head in names:
            rest = _cheapest(edges, [name for name in names if name not in (tail, head)])
            if rest is not None:
                found.append((price + rest[0], [label] + rest[1]))
    return min(found, default=None)


def perfect_claim(graph):
    """The true one of the two claims about perfect matchings."""
    found = _cheapest(unlike_ended(graph), graph.nodes)
    return ("no perfect",) if found is None else ("perfect", found[0])


def perfect_warrant(graph):
    """Some warrant of perfect_claim(graph)."""
    found = _cheapest(unlike_ended(graph), graph.nodes)
    if found is None:
        return barrier(graph)
    worth = _greatest_worths(graph)
    marks = tuple([worth[(name,)] for name in graph.nodes])
    rows = tuple([(row, worth[row]) for row in worth if len(row) > 1])
    return (in_edge_order(graph, found[1]), marks, rows)


def _greatest_worths(graph):
    """Worths that add up to twice the least price of a perfect matching, which there must be."""
    least = min([edge[3] for edge in unlike_ended(graph)], default=0)
    worth = {(name,): least for name in graph.nodes}
    better = _raised(graph, worth)
    while better != worth:
        worth = better
        better = _raised(graph, worth)
    return worth


def _outer_rows(worth):
    """The rows that are within no other one; of two with a common node one is within the other."""
    return [row for row in worth if not any([row[0] in other and len(row) < len(other) for other in worth])]


def _outer_steps(graph, worth, outer):
    """For each edge from one outer row to another its label, their numbers, and what is left.

    That is twice its price less the worths of the rows that it leaves.
    """
    number = {name: at for at, row in enumerate(outer) for name in row}
    steps = []
    for label, tail, head, price in [edge[:4] for edge in graph.edges]:
        if number[tail] != number[head]:
            left_rows = [row for row in worth if (tail in row) != (head in row)]
            steps.append((label, number[tail], number[head], 2 * price - sum([worth[row] for row in left_rows])))
    return steps


def _raised(graph, worth):
    """Worths that add up to more, or the same if they add up to as much as they can.

    Of the outer rows those that some greatest matching by edges with nothing
    left leaves out are raised, as parts, and those near them are lowered: the
    former are more. Once there are none, a perfect matching of the outer rows
    goes on within each of them, from whichever node is the one it leaves.
    """
    outer = _outer_rows(worth)
    steps = _outer_steps(graph, worth, outer)
    tight = [step for step in steps if step[3] == 0]
    spare, near = spare_and_near(len(outer), [step[1:3] for step in tight])
    if not spare:
        return worth
    groups = joined_rows(spare, [step for step in tight if step[1] in spare and step[2] in spare])
    amount = min(_bounds(steps, groups, near) + [worth[outer[number]] for number in near if len(outer[number]) > 1])
    better = {row: worth[row] for row in worth}
    for numbers in groups:
        row = in_node_order(graph, [name for number in numbers for name in outer[number]])
        better[row] = better.get(row, 0) + amount
    for number in near:
        better[outer[number]] -= amount
    return {row: better[row] for row in better if len(row) == 1 or better[row] > 0}


def _bounds(steps, groups, near):
    """How far the groups can be raised, and what is near lowered, until a step has nothing left."""
    pace = {number: 1 for numbers in groups for number in numbers}
    for number in near:
        pace[number] = -1
    bounds = []
    for _, tail, head, left in steps:
        both = pace.get(tail, 0) + pace.get(head, 0)
        if both > 0 and not any([tail in numbers and head in numbers for numbers in groups]):
            # Between two groups an even number is left. For all worths began alike:
            # the sum of those around a node of a group is, but for an even number,
            # that of a node which has been in a group, and was raised, from the first.
            bounds.append(left // both)
    return bounds


def perfect_holds(graph, claim, warrant):
    """Whether claim is one of the two and warrant one of its warrants."""
    if claim == ("no perfect",):
        return is_node_row(graph, warrant) and len(warrant) < odd_parts(graph, warrant)
    if not has_parts(claim, 2) or claim[0] != "perfect" or not is_integer(claim[1]) or not has_parts(warrant, 3):
        return False
    labels, marks, rows = warrant
    if not is_matching(graph, labels) or 2 * len(labels) != len(graph) or price_of(graph, labels) != claim[1]:
        return False
    return _worths_bound(graph, marks, rows, claim[1])


def _worths_bound(graph, marks, rows, price):
    """Whether marks and rows tell worths from which no perfect matching can have a lower price."""
    if not has_parts(marks, len(graph)) or not all([is_integer(mark) for mark in marks]):
        return False
    if not are_weighted_rows(graph, rows):
        return False
    if any([len(row) < 3 or len(row) % 2 == 0 or y <= 0 for row, y in rows]):
        return False
    worths = [((name,), mark) for name, mark in zip(graph.nodes, marks)] + list(rows)
    if sum([y for _, y in worths]) != 2 * price:
        return False
    return all([_worth_left(worths, edge) <= 2 * edge[3] for edge in unlike_ended(graph)])


def _worth_left(worths, edge):
    """The sum of the worths of those rows that have just one end of the edge."""
    return sum([y for row, y in worths if (edge[1] in row) != (edge[2] in row)])
