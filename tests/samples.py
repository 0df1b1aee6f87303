"""Values and graphs that several tests need."""

import random
import string
import unittest

from bridgeward.errors import UnknownNode, WardError
from bridgeward.graphs import Graph
from bridgeward.wards import Ward


class WardCase(unittest.TestCase):
    """Tests of functions that raise errors and of one, the looker, that looks at warrants."""

    looker = None

    def check_error(self, error, call, *values):
        """The call raises an error of just this class that keeps just the same."""
        with self.assertRaises(WardError) as caught:
            call(*values)
        self.assertIs(type(caught.exception), type(error))
        self.assertEqual(vars(caught.exception), vars(error))

    def check_yes(self, graph, claim, *warrants):
        for warrant in warrants:
            self.assertIs(type(self).looker(graph, claim, warrant), True, (claim, warrant))

    def check_no(self, graph, claim, *warrants):
        for warrant in warrants:
            self.assertIs(type(self).looker(graph, claim, warrant), False, (claim, warrant))

    def check_looker(self, graph, claim, warrant):
        """The warrant holds; whatever changes in it or the claim, no is told of what is not plain."""
        look = type(self).looker
        self.check_yes(graph, claim, warrant)
        for other in changed_parts(claim):
            told = look(graph, other, warrant)
            self.assertIs(told, told and is_plain(other), other)
        for other in changed_parts(warrant):
            told = look(graph, claim, other)
            self.assertIs(told, told and is_plain(other), other)

    def check_small_integers(self, value):
        """Each integer in the value has at most 12 figures."""
        if isinstance(value, tuple):
            for part in value:
                self.check_small_integers(part)
        elif isinstance(value, int):
            self.assertLess(abs(value), 10 ** 12)


def nested(depth):
    """A tuple nested so deep."""
    value = ()
    for _ in range(depth - 1):
        value = (value,)
    return value


NO_NAMES = [
    None, True, False, 0, 1, -1, "", "A", "aB", "a b", "a1", "a_", "-", "\u00e9", "\u00df", "abcdefghi", "a\n",
    b"a", (), ("a",), [], ["a"], Graph(("a",), ()), UnknownNode("a"), nested(20),
    Ward(Graph(("a",), ())),
]
ODD_VALUES = NO_NAMES + ["a", "b", "x", "before", "past", 2, 10 ** 12 - 1, (("x",), ("a",)), [["x"], ["a"]]]


def random_graph(seed, most_nodes=4, most_edges=6, prices=(-3, 4), most_room=3):
    """A small graph with loops and parallel edges, the same for the same seed.

    Every third one has labels that are names of its nodes, too.
    """
    dice = random.Random(seed)
    nodes = tuple(string.ascii_lowercase[: dice.randint(2, most_nodes)])
    first = 15 if seed % 3 else 0
    edges = [
        (label, dice.choice(nodes), dice.choice(nodes), dice.randint(*prices), dice.randint(0, most_room))
        for label in string.ascii_lowercase[first: first + dice.randint(0, most_edges)]
    ]
    return Graph(nodes, edges)


def pairs_of(graph):
    """All pairs of nodes, equal ones too."""
    return [(s, t) for s in graph.nodes for t in graph.nodes]


def unlike_pairs_of(graph):
    return [(s, t) for s, t in pairs_of(graph) if s != t]


def full_graphs():
    """Graphs of 8 nodes and 14 edges, with the greatest prices and rooms."""
    graphs = []
    for seed in range(30):
        dice = random.Random(seed)
        nodes = tuple("abcdefgh")
        prices = [(-99, 99), (99,), (-99,), (-99, -98, 98, 99)][seed % 4]
        ends = [tuple(dice.sample(nodes, 2)) for _ in range(14)]
        if seed % 3 == 0:
            # A row of all nodes, so that ways are long.
            ends[:7] = list(zip(nodes, nodes[1:]))
        edges = [(label, *pair, dice.choice(prices), 20) for label, pair in zip("pqrstuvwxyzabc", ends)]
        graphs.append(Graph(nodes, edges))
    return graphs


def changed_parts(value):
    """The value with each of its parts, at any depth, taken out, doubled, or replaced by an odd value."""
    yield from ODD_VALUES
    if isinstance(value, tuple):
        yield list(value)
        yield value + (value,)
        for at, part in enumerate(value):
            yield value[:at] + value[at + 1:]
            yield value[:at + 1] + value[at:]
            for other in changed_parts(part):
                yield value[:at] + (other,) + value[at + 1:]


def is_plain(value):
    """Whether only tuples, integers and strings stand in the value."""
    if isinstance(value, tuple):
        return all(map(is_plain, value))
    return isinstance(value, (int, str)) and not isinstance(value, bool)
