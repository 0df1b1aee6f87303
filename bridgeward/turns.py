"""Turns of ends around nodes, the rounds of sides that they make, and plane ones of them.

An end is a pair of a label and 0 for the tail's end of the edge, 1 for the
head's; the side of an edge that leaves by an end is told by the same pair.
Turns are a dict that has for some nodes the list of ends at them, in the turn
in which they leave.
"""

from bridgeward.joins import joined_rows
from bridgeward.steps import reached, trace, walk_steps


def other_side(end):
    """The other end of the edge, by which the side that leaves by this one comes."""
    return (end[0], 1 - end[1])


def rounds_of(turns):
    """The rounds into which the sides of the turns fall."""
    following = {}
    for ends in list(turns.values()):
        for end, behind in zip(ends, ends[1:] + ends[:1]):
            following[end] = behind
    rounds = []
    passed = set()
    for start in following:
        sides = []
        side = start
        while side not in passed:
            passed.add(side)
            sides.append(side)
            side = following[other_side(side)]
        if sides:
            rounds.append(sides)
    return rounds


def _attachments(turns, piece):
    """Those nodes of the turns that are ends of edges of the piece."""
    ends = [name for edge in piece for name in edge[1:3]]
    return [name for name in turns if name in ends]


def _pieces(turns, edges):
    """The pieces into which the nodes of the turns part the edges, of those that are attached at two at least.

    A piece is an edge between two such nodes, or the edges at joined nodes
    that are none.
    """
    pieces = [[edge] for edge in edges if edge[1] in turns and edge[2] in turns]
    outer = [edge for edge in edges if edge[1] not in turns and edge[2] not in turns]
    # Each name just once, in the order in which they come.
    names = list({name: True for edge in edges for name in edge[1:3] if name not in turns})
    for row in joined_rows(names, outer):
        pieces.append([edge for edge in edges if edge[1] in row or edge[2] in row])
    return [piece for piece in pieces if len(_attachments(turns, piece)) > 1]


def _fitting_rounds(turns, piece):
    """Those rounds of the turns that come to all nodes at which the piece is attached."""
    at = {end: name for name in turns for end in turns[name]}
    ends = _attachments(turns, piece)
    fitting = []
    for sides in rounds_of(turns):
        names = [at[side] for side in sides]
        if all([name in names for name in ends]):
            fitting.append(sides)
    return fitting


def _crossing_walk(turns, piece):
    """The first two nodes at which the piece is attached, and a walk between them without further ones."""
    one, other = _attachments(turns, piece)[:2]
    steps = [step for step in walk_steps(piece) if step[1] == one or step[1] not in turns]
    return one, trace(reached(steps, one), other)


def _add_walk(turns, sides, one, edges):
    """Add a walk from the node one, by edges in their order, through the round of these sides."""
    # By these ends the round comes to the nodes; behind each of them there is a place in the turn.
    corners = [other_side(side) for side in sides]
    here = one
    for label, tail, head in [edge[:3] for edge in edges]:
        end = (label, 0 if tail == here else 1)
        there = head if tail == here else tail
        for name, added in ((here, end), (there, other_side(end))):
            ends = turns.setdefault(name, [])
            places = [place for place, old in enumerate(ends) if old in corners]
            ends.insert(places[0] + 1 if places else len(ends), added)
        here = there


def _block_turns(edges):
    """The turns of a plane drawing of the first edge and those that make circles with it, or None.

    None of the edges is a loop. Piece by piece a walk is drawn, the first by
    the piece that the fewest rounds have room for (Demoucron, Malgrange, Pertuiset).
    """
    label, tail, head = edges[0][:3]
    turns = {tail: [(label, 0)], head: [(label, 1)]}
    left = edges[1:]
    pieces = _pieces(turns, left)
    while pieces:
        choices = [(len(_fitting_rounds(turns, piece)), place) for place, piece in enumerate(pieces)]
        many, place = min(choices)
        if many == 0:
            return None
        sides = _fitting_rounds(turns, pieces[place])[0]
        one, labels = _crossing_walk(turns, pieces[place])
        _add_walk(turns, sides, one, [edge for label in labels for edge in left if edge[0] == label])
        left = [edge for edge in left if edge[0] not in labels]
        pieces = _pieces(turns, left)
    return turns


def plane_turns(graph):
    """The turns of a plane drawing of the graph, or None if there is none."""
    turns = {name: [] for name in graph.nodes}
    left = [edge for edge in graph.edges if edge[1] != edge[2]]
    while left:
        block = _block_turns(left)
        if block is None:
            return None
        # Blocks have at most one node in common: one can be drawn within a round of another.
        for name in block:
            turns[name].extend(block[name])
        drawn = [end[0] for name in block for end in block[name]]
        left = [edge for edge in left if edge[0] not in drawn]
    for label, tail, head in [edge[:3] for edge in graph.edges]:
        if tail == head:
            turns[tail].extend([(label, 0), (label, 1)])
    return turns
