"""Points 32 and 33: holes, eliminations and colours, their claims and warrants."""

import itertools
import unittest

import slow
from bridgeward.errors import Undefined
from bridgeward.graphs import Graph
from bridgeward.holes import (
    colours, colours_claim, colours_holds, colours_warrant, first_elimination, hole_claim, hole_holds, hole_warrant,
)
from samples import ODD_VALUES, WardCase, full_graphs, random_graph

NO_HOLE = ("no hole",)
HOLE = ("hole",)
# Two triangles a b c and b c d, e behind d, an edge twice, a loop, o by itself.
FILLED = Graph(
    ("c", "a", "b", "d", "e", "o"),
    (
        ("x", "a", "b", 0, 0), ("y", "c", "b", 0, 0), ("z", "a", "c", 0, 0), ("w", "b", "d", 0, 0),
        ("v", "d", "c", 0, 0), ("u", "d", "e", 0, 0), ("t", "b", "a", 0, 0), ("l", "e", "e", 0, 0),
    ),
)
ORDER = ("a", "o", "e", "d", "c", "b")
COLOURS = ("colours", 3)
NUMBERS = (0, 1, 2, 1, 0, 2)
MUTUAL = ("c", "b", "d")
# A ring a b c d e with an edge from a to c, an edge twice, a loop, f behind e.
OPEN = Graph(
    ("a", "b", "c", "d", "e", "f"),
    (
        ("x", "a", "b", 0, 0), ("y", "c", "b", 0, 0), ("z", "c", "d", 0, 0), ("w", "e", "d", 0, 0), ("v", "a", "e", 0, 0),
        ("u", "a", "c", 0, 0), ("t", "c", "a", 0, 0), ("l", "d", "d", 0, 0), ("s", "f", "e", 0, 0),
    ),
)


def ring(many, *more):
    """A ring of so many nodes, and more edges told by their ends."""
    nodes = "abcdefgh"[:many]
    ends = list(zip(nodes, nodes[1:] + nodes[:1])) + list(more)
    return Graph(tuple(nodes), [(label, *pair, 0, 0) for label, pair in zip("pqrstuvwxyz", ends)])


def dense_graph(seed):
    return random_graph(seed, most_nodes=6, most_edges=[9, 11, 14][seed % 3])


class TestAnswers(WardCase):
    def check_graph(self, graph, holes):
        """All answers fit whether there are holes."""
        claim, warrant = hole_claim(graph), hole_warrant(graph)
        self.assertEqual((hole_claim(graph), hole_warrant(graph)), (claim, warrant))
        self.assertEqual(claim, HOLE if holes else NO_HOLE)
        self.assertIs(hole_holds(graph, claim, warrant), True)
        self.assertIs(hole_holds(graph, NO_HOLE if holes else HOLE, warrant), False)
        many = colours(graph)
        self.assertTrue(any(True for _ in slow.colourings(graph, many)))
        self.assertFalse(many and any(True for _ in slow.colourings(graph, many - 1)))
        if holes:
            self.check_error(Undefined("order"), first_elimination, graph)
            self.check_error(Undefined("order"), colours_claim, graph)
            self.check_error(Undefined("order"), colours_warrant, graph)
        else:
            self.assertTrue(hole_holds(graph, NO_HOLE, first_elimination(graph)))
            self.assertEqual(colours_claim(graph), ("colours", many))
            self.assertIs(colours_holds(graph, ("colours", many), colours_warrant(graph)), True)
            self.assertEqual(colours_warrant(graph), colours_warrant(graph))

    def check_first(self, graph):
        """The first elimination is the first of all, by the places of its nodes."""
        due = min(slow.eliminations(graph), key=lambda row: [graph.place(name) for name in row])
        self.assertEqual(first_elimination(graph), due)

    def test_random_graphs(self):
        found = []
        for seed in range(300):
            graph = dense_graph(seed)
            holes = next(slow.holes(graph), ())
            self.check_graph(graph, holes)
            found.append(bool(holes))
            if not holes and seed % 3 == 0:
                self.check_first(graph)
        self.assertGreater(min(found.count(True), found.count(False)), 15)

    def test_first_elimination_of_few_nodes(self):
        for seed in range(150):
            graph = random_graph(seed, most_nodes=5, most_edges=8)
            if not any(True for _ in slow.holes(graph)):
                self.check_first(graph)

    def test_full_graphs(self):
        for graph in full_graphs():
            self.check_graph(graph, next(slow.holes(graph), ()))

    def test_rings(self):
        for many in range(4, 9):
            self.check_graph(ring(many), True)
            self.assertEqual((len(hole_warrant(ring(many))), colours(ring(many))), (many, 2 + many % 2))
        self.check_graph(ring(3), False)
        self.assertEqual(colours_claim(ring(3)), ("colours", 3))

    def test_rings_with_an_edge_across(self):
        self.check_graph(ring(4, "ac"), False)
        self.check_graph(ring(5, "ac"), True)
        self.check_graph(ring(5, "ac", "ad"), False)
        self.check_graph(ring(8, "ae"), True)
        self.check_graph(ring(6, "ac", "ce", "ea"), False)

    def test_samples(self):
        self.check_graph(FILLED, False)
        self.check_graph(OPEN, True)
        self.check_first(FILLED)
        self.assertEqual(first_elimination(FILLED), ("a", "c", "b", "d", "e", "o"))
        self.assertEqual((colours(FILLED), colours(OPEN)), (3, 3))

    def test_graphs_without_edges(self):
        for nodes in ((), ("a",), ("b", "a")):
            graph = Graph(nodes, ())
            self.check_graph(graph, False)
            many = 1 if nodes else 0
            self.assertEqual((first_elimination(graph), colours(graph)), (nodes, many))
            self.assertEqual(colours_warrant(graph)[0], (0,) * len(nodes))

    def test_loops_and_parallel_edges(self):
        graph = Graph(("b", "a"), [("l", "a", "a", 0, 0), ("x", "a", "b", 0, 0), ("y", "b", "a", 0, 0)])
        self.check_graph(graph, False)
        self.assertEqual(colours(graph), 2)
        self.assertEqual(colours(graph.without_edge("x").without_edge("y")), 1)

    def test_all_pairs_joined(self):
        edges = [(label, *pair, 0, 0) for label, pair in zip("pqrstuvwxyzabcd", itertools.combinations("abcdef", 2))]
        self.check_graph(Graph(tuple("abcdef"), edges), False)
        self.assertEqual(colours(Graph(tuple("fbcdea"), edges)), 6)


class TestNoHole(WardCase):
    looker = hole_holds

    def test_all_rows(self):
        for graph in [FILLED, OPEN, ring(4, "ac")] + [random_graph(seed, most_nodes=4) for seed in range(60)]:
            due = set(slow.eliminations(graph))
            for row in itertools.permutations(graph.nodes):
                self.assertIs(hole_holds(graph, NO_HOLE, row), row in due)

    def test_right_ones(self):
        self.check_yes(FILLED, NO_HOLE, ORDER, ("e", "d", "a", "b", "c", "o"), ("o", "a", "e", "b", "d", "c"))

    def test_neighbours_that_are_none_of_one_another(self):
        self.check_no(FILLED, NO_HOLE, ("d", "a", "o", "e", "c", "b"), ("a", "o", "d", "e", "c", "b"), ("b", "a", "e", "d", "c", "o"))

    def test_rows_that_have_not_each_node_once(self):
        self.check_no(FILLED, NO_HOLE, ORDER[1:], ORDER[:5], ORDER + ("b",), ORDER[:5] + ("c",), ORDER + ("z",), ())
        self.check_no(FILLED, NO_HOLE, ORDER[:5] + ("z",), ORDER[:5] + ("x",), ("a",) * 6, ("a",) + ORDER)

    def test_other_values(self):
        self.check_no(FILLED, NO_HOLE, list(ORDER), "aoedcb", None, (ORDER,), (ORDER, ()), *ODD_VALUES)
        self.check_no(FILLED, NO_HOLE, ORDER[:5] + (None,), ORDER[:5] + (["b"],), ORDER[:5] + (("b",),), ("a", "oe", "d", "c", "b"))
        self.check_yes(Graph((), ()), NO_HOLE, ())
        self.check_no(Graph((), ()), NO_HOLE, [], None, "", 0, False, ((),))


class TestHole(WardCase):
    looker = hole_holds

    def test_all_rows(self):
        for graph in [OPEN, ring(4), ring(5, "ac")] + [dense_graph(seed) for seed in range(40)]:
            due = set(slow.holes(graph))
            for many in range(3, len(graph) + 1):
                for row in itertools.permutations(graph.nodes, many):
                    self.assertIs(hole_holds(graph, HOLE, row), row in due)

    def test_right_ones(self):
        self.check_yes(OPEN, HOLE, ("a", "c", "d", "e"), ("d", "e", "a", "c"), ("e", "d", "c", "a"), ("c", "a", "e", "d"))
        self.check_yes(ring(8), HOLE, tuple("abcdefgh"), tuple("dcbahgfe"))

    def test_three_nodes(self):
        self.check_no(ring(3), HOLE, ("a", "b", "c"))
        self.check_no(OPEN, HOLE, ("a", "b", "c"), ("a", "b"), ("a",), ())

    def test_a_node_twice(self):
        self.check_no(OPEN, HOLE, ("a", "b", "a", "b"), ("a", "b", "c", "b"), ("a", "c", "d", "e", "a"))
        self.check_no(OPEN, HOLE, ("a", "c", "d", "d", "e"), ("a", "c", "d", "e") * 2)
        self.check_no(Graph(("a", "b"), (("x", "a", "b", 0, 0), ("y", "a", "b", 0, 0))), HOLE, ("a", "b", "a", "b"))

    def test_two_other_neighbours(self):
        self.check_no(OPEN, HOLE, ("a", "b", "c", "d", "e"), ("b", "c", "d", "e", "a"))
        self.check_no(ring(4, "bd"), HOLE, tuple("abcd"), tuple("bcda"))

    def test_rows_that_are_not_closed(self):
        self.check_no(OPEN, HOLE, ("b", "c", "d", "e"), ("f", "e", "d", "c"), ("c", "d", "e", "f"))
        self.check_no(ring(5), HOLE, tuple("abcd"))

    def test_nodes_that_are_no_neighbours(self):
        self.check_no(OPEN, HOLE, ("a", "d", "c", "e"), ("a", "c", "e", "d"), ("a", "c", "d", "f"), ("a", "c", "d", "o"))
        self.check_no(ring(6), HOLE, tuple("abdcef"))

    def test_other_values(self):
        good = ("a", "c", "d", "e")
        self.check_no(OPEN, HOLE, list(good), "acde", (good,), good[:3] + (["e"],), good[:3] + (None,), *ODD_VALUES)
        self.check_no(OPEN, HOLE, good[:3] + ("z",), good[:3] + (OPEN,), good[:3] + (("e",),))

    def test_claims_of_another_form(self):
        for graph, claim, warrant in ((FILLED, NO_HOLE, ORDER), (OPEN, HOLE, ("a", "c", "d", "e"))):
            self.check_yes(graph, claim, warrant)
            wrong = ODD_VALUES + [claim + (0,), claim * 2, list(claim), claim[0], (claim,), (claim[0].upper(),), ("round",)]
            for other in wrong + [NO_HOLE if claim == HOLE else HOLE, ("colours", 3), ("holes",), ("no hole", ())]:
                self.check_no(graph, other, warrant)

    def test_any_values(self):
        self.check_looker(FILLED, NO_HOLE, ORDER)
        self.check_looker(OPEN, HOLE, ("a", "c", "d", "e"))


class TestColours(WardCase):
    looker = colours_holds

    def test_right_ones(self):
        others = ("e", "d", "a", "b", "c", "o")
        self.check_yes(
            FILLED, COLOURS, (NUMBERS, MUTUAL, ORDER), (NUMBERS, ("c", "a", "b"), others), ((0, 1, 2, 1, 2, 0), MUTUAL, ORDER),
            ((1, 2, 0, 2, 1, 1), MUTUAL, others), colours_warrant(FILLED),
        )

    def test_all_small_warrants(self):
        for seed in range(40):
            graph = random_graph(seed, most_nodes=4, most_edges=5)
            orders, rows = list(slow.eliminations(graph)), list(slow.subsets(graph.nodes))
            order = orders[0] if orders else graph.nodes
            for many in range(4):
                right = set(slow.colourings(graph, many))
                for numbers in itertools.product(range(4), repeat=len(graph)):
                    for nodes in rows:
                        due = numbers in right and len(nodes) == many and slow.are_mutual(graph, nodes) and orders != []
                        self.assertIs(colours_holds(graph, ("colours", many), (numbers, nodes, order)), due)

    def test_neighbours_with_like_numbers(self):
        for numbers in ((1, 1, 2, 1, 0, 2), (0, 2, 2, 1, 0, 2), (0, 1, 2, 2, 0, 2), (0, 1, 2, 1, 1, 2), (0,) * 6):
            self.check_no(FILLED, COLOURS, (numbers, MUTUAL, ORDER))

    def test_numbers_that_are_too_great(self):
        self.check_no(FILLED, COLOURS, ((0, 1, 2, 1, 0, 3), MUTUAL, ORDER), ((0, 3, 2, 1, 0, 2), MUTUAL, ORDER))
        self.check_no(FILLED, ("colours", 2), (NUMBERS, ("c", "b"), ORDER), (NUMBERS, MUTUAL, ORDER))
        self.check_no(FILLED, COLOURS, ((0, 1, 2, 1, 0, -1), MUTUAL, ORDER))

    def test_too_few_or_too_many_numbers(self):
        self.check_no(FILLED, COLOURS, (NUMBERS[:5], MUTUAL, ORDER), (NUMBERS + (0,), MUTUAL, ORDER), ((), MUTUAL, ORDER))

    def test_nodes_that_are_not_all_neighbours(self):
        for nodes in (("c", "a", "d"), ("a", "b", "d"), ("b", "d", "e"), ("c", "b", "o")):
            self.check_no(FILLED, COLOURS, (NUMBERS, nodes, ORDER))

    def test_nodes_of_another_number(self):
        self.check_no(FILLED, COLOURS, (NUMBERS, ("c", "b"), ORDER), (NUMBERS, (), ORDER), (NUMBERS, ("c", "a", "b", "d"), ORDER))
        self.check_no(FILLED, ("colours", 4), (NUMBERS, MUTUAL, ORDER), (NUMBERS, ("c", "a", "b", "d"), ORDER))

    def test_nodes_in_another_order(self):
        wrong = [("b", "c", "d"), ("c", "b", "b"), ("c", "b", "z"), list(MUTUAL), "cbd", None, ("c", "b", None), ("c", "b", ["d"])]
        self.check_no(FILLED, COLOURS, *[(NUMBERS, nodes, ORDER) for nodes in wrong])

    def test_orders_that_are_none(self):
        wrong = [("d", "a", "o", "e", "c", "b"), ORDER[:5], ORDER + ("b",), list(ORDER), None, (), "aoedcb"]
        self.check_no(FILLED, COLOURS, *[(NUMBERS, MUTUAL, order) for order in wrong])

    def test_graphs_with_holes(self):
        graph = ring(4)
        for order in itertools.permutations(graph.nodes):
            self.check_no(graph, ("colours", 2), ((0, 1, 0, 1), ("a", "b"), order))
        self.check_no(graph, ("colours", 2), ((0, 1, 0, 1), ("a", "b"), hole_warrant(graph)))

    def test_triples_of_another_form(self):
        good = (NUMBERS, MUTUAL, ORDER)
        self.check_no(FILLED, COLOURS, good[:2], good + ((),), list(good), good[::-1], NUMBERS, (), (MUTUAL, NUMBERS, ORDER))
        wrong = [list(NUMBERS), None, 3, tuple(map(str, NUMBERS)), (False,) + NUMBERS[1:], (None,) + NUMBERS[1:], MUTUAL]
        self.check_no(FILLED, COLOURS, *[(numbers, MUTUAL, ORDER) for numbers in wrong])

    def test_claims_of_another_form(self):
        wrong = ODD_VALUES + [("colours",), ("colours", 3, 0), ["colours", 3], (3, "colours"), ("cover", 3), NO_HOLE, ("colour", 3)]
        wrong += [("colours", many) for many in (None, True, "3", (3,), [3], -3)]
        for claim in wrong:
            self.check_no(FILLED, claim, (NUMBERS, MUTUAL, ORDER))
        one = Graph(("a",), ())
        self.check_yes(one, ("colours", 1), ((0,), ("a",), ("a",)))
        self.check_no(one, ("colours", True), ((0,), ("a",), ("a",)))
        self.check_no(one, ("colours", 1), ((False,), ("a",), ("a",)))

    def test_no_nodes(self):
        graph = Graph((), ())
        self.assertEqual((colours(graph), colours_claim(graph), colours_warrant(graph)), (0, ("colours", 0), ((), (), ())))
        self.check_yes(graph, ("colours", 0), ((), (), ()))
        self.check_no(graph, ("colours", False), ((), (), ()))
        self.check_no(graph, ("colours", 1), ((), (), ()), ((0,), (), ()))

    def test_any_values(self):
        self.check_looker(FILLED, COLOURS, (NUMBERS, MUTUAL, ORDER))
        self.check_no(FILLED, COLOURS, *ODD_VALUES)


if __name__ == "__main__":
    unittest.main()
