"""Point 27: cheapest perfect matchings, the claims and their warrants."""

import itertools
import random
import unittest

import slow
from bridgeward.errors import Undefined
from bridgeward.graphs import Graph
from bridgeward.perfect import perfect_claim, perfect_holds, perfect_price, perfect_warrant
from samples import ODD_VALUES, WardCase, full_graphs, random_graph

# Two triangles for nothing, a dear edge between them, a loop and a parallel edge.
GRAPH = Graph(
    ("a", "b", "c", "d", "e", "f"),
    (
        ("x", "a", "b", 0, 0), ("y", "b", "c", 0, 0), ("z", "c", "a", 0, 0), ("w", "c", "d", 10, 0),
        ("t", "d", "e", 0, 0), ("u", "e", "f", 0, 0), ("v", "f", "d", 0, 0), ("l", "a", "a", -99, 0),
        ("q", "b", "a", 5, 0),
    ),
)
CLAIM = ("perfect", 10)
LABELS = ("x", "w", "u")
ZERO = (0, 0, 0, 0, 0, 0)
ABC = ("a", "b", "c")
DEF = ("d", "e", "f")
ROWS = ((ABC, 10), (DEF, 10))
# A hub h with three nodes at it, and a pair beside.
STAR = Graph(
    ("p", "h", "q", "r", "a", "b"),
    (("x", "h", "p", 0, 0), ("y", "q", "h", 0, 0), ("z", "h", "r", 0, 0), ("w", "a", "b", 0, 0)),
)
NONE = ("no perfect",)


class TestAnswers(WardCase):
    looker = perfect_holds

    def check_graph(self, graph):
        prices = [slow.price(graph, labels) for labels in slow.perfect_matchings(graph)]
        claim = ("perfect", min(prices)) if prices else NONE
        self.assertEqual(perfect_claim(graph), claim)
        if prices:
            self.assertEqual(perfect_price(graph), min(prices))
        else:
            self.check_error(Undefined("matching"), perfect_price, graph)
        warrant = perfect_warrant(graph)
        self.assertEqual(perfect_warrant(graph), warrant)
        self.check_small_integers(warrant)
        self.check_yes(graph, claim, warrant)
        for other in [NONE] + [("perfect", price) for price in range(-3, 3)]:
            if other != claim:
                self.check_no(graph, other, warrant)
        return len(warrant[2]) if prices else 0

    def test_small_graphs_against_all_perfect_matchings(self):
        for seed in range(800):
            self.check_graph(random_graph(seed, most_nodes=6, most_edges=10))

    def test_full_graphs(self):
        for graph in full_graphs():
            self.check_graph(graph)

    def test_odd_circles(self):
        """Rings of three and five nodes with cheap edges, dear ones between them."""
        rows = []
        for seed in range(300):
            dice = random.Random(seed)
            nodes = tuple("abcdefgh")
            rings = ["ab bc ca de ef fd gh".split(), "ab bc ca de ef fg gh hd".split(), "ab bc ca ef fg gh he".split()]
            pairs = rings[seed % 3] + ["".join(dice.sample(nodes, 2)) for _ in range(6)]
            prices = [dice.randint(-99, -90) for _ in rings[seed % 3]] + [dice.randint(0, 99) for _ in range(6)]
            edges = [(label, *ends, price, 0) for label, ends, price in zip("opqrstuvwxyzab", pairs, prices)]
            rows.append(self.check_graph(Graph(nodes, edges)))
        self.assertLessEqual({0, 1, 2, 3}, set(rows))

    def test_all_edges_between_six_nodes(self):
        for seed in range(40):
            dice = random.Random(seed)
            pairs = itertools.combinations("abcdef", 2)
            edges = [(label, *ends, dice.randint(0, 3), 0) for label, ends in zip("opqrstuvwxyzabc", pairs)]
            self.check_graph(Graph(tuple("abcdef"), edges))

    def test_samples(self):
        self.check_graph(GRAPH)
        self.check_graph(STAR)
        self.assertEqual((perfect_price(GRAPH), perfect_claim(STAR)), (10, NONE))

    def test_no_nodes(self):
        graph = Graph((), ())
        self.check_graph(graph)
        self.assertEqual((perfect_claim(graph), perfect_warrant(graph)), (("perfect", 0), ((), (), ())))

    def test_graphs_without_a_perfect_matching(self):
        triangle = Graph(("a", "b", "c"), GRAPH.edges[:3])
        loop = Graph(("a", "b"), (("l", "a", "a", -9, 0), ("m", "b", "b", 0, 0)))
        for graph in (Graph(("a",), ()), Graph(("a", "b"), ()), triangle, loop):
            self.check_graph(graph)
            self.assertEqual(perfect_claim(graph), NONE)

    def test_prices_below_0(self):
        graph = Graph(("a", "b"), (("x", "a", "b", -5, 0), ("y", "b", "a", -7, 0), ("l", "a", "a", -99, 0)))
        self.check_graph(graph)
        self.assertEqual(perfect_price(graph), -7)

    def test_graphs_a_little_beyond_the_limits(self):
        for seed in range(30):
            dice = random.Random(seed)
            nodes = tuple("abcdefghij")
            edges = [("e" + label, *dice.sample(nodes, 2), dice.randint(-999, 999), 0) for label in "abcdefghijklmnopq"]
            self.check_graph(Graph(nodes, edges))


class TestPerfect(WardCase):
    looker = perfect_holds

    def check_rows(self, due, *rows):
        (self.check_yes if due else self.check_no)(GRAPH, CLAIM, *[(LABELS, ZERO, row) for row in rows])

    def test_right_ones(self):
        self.check_rows(True, ROWS, ROWS[::-1], ((ABC, 20),), ((DEF, 20),), ((ABC, 16), (DEF, 4)))
        self.check_yes(
            GRAPH, CLAIM, (LABELS, (1, -1, -1, 0, 0, 0), ((ABC, 11), (DEF, 10))),
            (LABELS, (0, 0, 0, 0, 0, -1), ROWS + ((("a", "b", "c", "d", "e"), 1),)),
        )
        self.check_yes(GRAPH.with_price("q", 0), CLAIM, (("w", "u", "q"), ZERO, ROWS))

    def test_a_set_of_one_node(self):
        marks = (-1, 0, 0, 0, 0, 0)
        self.check_no(GRAPH, CLAIM, (LABELS, marks, ROWS + ((("a",), 1),)))

    def test_a_set_of_an_even_number(self):
        self.check_rows(False, ((("a", "b"), 1), (ABC, 10), (DEF, 9)), ((("b", "c", "d", "e"), 0), *ROWS))
        marks = (0, 0, -1, 0, 0, 0)
        self.check_no(GRAPH, CLAIM, (LABELS, marks, ((("a", "b"), 1), (ABC, 10), (DEF, 10))))
        marks = (0, 0, 0, -1, 0, 0)
        self.check_no(GRAPH, CLAIM, (LABELS, marks, ((("a", "b", "c", "d"), 1), (ABC, 10), (DEF, 10))))
        pair = Graph(("a", "b"), (("x", "a", "b", 1, 0),))
        self.check_yes(pair, ("perfect", 1), (("x",), (1, 1), ()))
        self.check_no(pair, ("perfect", 1), (("x",), (0, 0), ((("a", "b"), 2),)), (("x",), (1, 1), ((("a", "b"), 0),)))

    def test_an_empty_set(self):
        self.check_rows(False, ((ABC, 10), (DEF, 9), ((), 1)), ROWS + (((), 0),))
        self.check_no(Graph((), ()), ("perfect", 0), ((), (), (((), 1),)), ((), (), (((), 0),)))

    def test_weights_not_above_0(self):
        five = ("a", "b", "c", "d", "e")
        self.check_rows(False, ROWS + ((five, 0),), ((ABC, 20), (DEF, 0)))
        self.check_no(GRAPH, CLAIM, (LABELS, (0, 0, 0, 0, 0, 1), ROWS + ((five, -1),)))
        self.check_rows(False, ((ABC, 21), (DEF, -1)))

    def test_a_set_twice(self):
        self.check_rows(False, ((ABC, 5), (ABC, 5), (DEF, 10)), ((ABC, 5), (DEF, 10), (ABC, 5)))

    def test_sets_that_are_no_rows(self):
        for nodes in (("a", "c", "b"), ("a", "b", "b"), ["a", "b", "c"], "abc", None, ("a", "b", "z"), ("a", "b", None)):
            self.check_rows(False, ((nodes, 10), (DEF, 10)))

    def test_edges_with_more_than_twice_their_price(self):
        self.check_no(GRAPH, CLAIM, (LABELS, (-1, 0, 0, 0, 0, 0), ((ABC, 11), (DEF, 10))))
        self.check_no(GRAPH, CLAIM, (LABELS, (1, 0, 0, 0, 0, 0), ((ABC, 9), (DEF, 10))))
        self.check_no(GRAPH.with_price("y", -1), CLAIM, (LABELS, ZERO, ROWS))
        self.check_no(GRAPH.with_edge(("k", "a", "f", 9, 0)), CLAIM, (LABELS, ZERO, ROWS))
        self.check_yes(GRAPH.with_edge(("k", "a", "f", 10, 0)), CLAIM, (LABELS, ZERO, ROWS))

    def test_worths_of_no_perfect_matching(self):
        self.check_no(GRAPH, ("perfect", 5), (LABELS, ZERO, ((ABC, 10),)))
        self.check_no(GRAPH, ("perfect", 0), (("x", "t"), ZERO, ()))

    def test_loops_are_free(self):
        for price in (-99, 0, 99):
            self.check_yes(GRAPH.with_price("l", price), CLAIM, (LABELS, ZERO, ROWS))

    def test_sums_that_are_not_twice_the_price(self):
        self.check_rows(False, (), ((ABC, 10),), ((ABC, 10), (DEF, 9)), ((ABC, 9), (DEF, 10)), ((ABC, 5), (DEF, 5)))
        self.check_no(GRAPH, CLAIM, (LABELS, (-1, 0, 0, 0, 0, 0), ROWS), (LABELS, (0, -1, 0, 0, 0, 0), ROWS))

    def test_another_number_of_marks(self):
        self.check_no(GRAPH, CLAIM, *[(LABELS, marks, ROWS) for marks in (ZERO[:5], ZERO + (0,), (), list(ZERO))])

    def test_marks_that_are_no_integers(self):
        for mark in (None, False, True, "0", (), (0,), [0], ""):
            self.check_no(GRAPH, CLAIM, *[(LABELS, ZERO[:at] + (mark,) + ZERO[at + 1:], ROWS) for at in range(6)])
        self.check_no(GRAPH, CLAIM, *[(LABELS, marks, ROWS) for marks in (None, 0, "abcdef", False)])

    def test_matchings_that_are_not_perfect(self):
        self.check_no(GRAPH, ("perfect", 0), (("x", "t"), ZERO, ()), (("x",), ZERO, ()), ((), ZERO, ()))
        self.check_no(GRAPH, CLAIM, (("w",), ZERO, ROWS), (("x", "w"), ZERO, ROWS), (("w", "u"), ZERO, ROWS))

    def test_edges_with_a_common_end(self):
        self.check_no(GRAPH, CLAIM, (("x", "z", "w"), ZERO, ROWS), (("x", "w", "t"), ZERO, ROWS))
        self.check_no(GRAPH, CLAIM, (("x", "w", "u", "v"), ZERO, ROWS), (("x", "y", "w"), ZERO, ROWS))
        loops = Graph(("a", "b"), (("l", "a", "a", 0, 0), ("m", "b", "b", 0, 0), ("x", "a", "b", 0, 0)))
        self.check_yes(loops, ("perfect", 0), (("x",), (0, 0), ()))
        self.check_no(loops, ("perfect", 0), (("l",), (0, 0), ()), (("l", "m"), (0, 0), ()))

    def test_matchings_of_another_price(self):
        for price in (-99, 0, 5, 9, 11, 20):
            self.check_no(GRAPH, ("perfect", price), (LABELS, ZERO, ROWS))
        dear = GRAPH.with_price("q", 3)
        self.check_no(dear, ("perfect", 13), (("w", "u", "q"), ZERO, ((ABC, 16), (DEF, 10))))
        self.check_no(dear, CLAIM, (("w", "u", "q"), ZERO, ROWS))

    def test_labels_in_another_order(self):
        wrong = [("w", "x", "u"), ("x", "w", "u", "u"), ("x", "w", "k"), ["x", "w", "u"], "xwu", None, ("x", "w", None)]
        self.check_no(GRAPH, CLAIM, *[(labels, ZERO, ROWS) for labels in wrong])

    def test_rows_of_another_form(self):
        self.check_rows(False, list(ROWS), None, ROWS[0], ABC, "ab", (ROWS,), 10)
        for pair in ([DEF, 10], (DEF,), (DEF, 10, 0), (10, DEF), None, DEF, (), 10):
            self.check_rows(False, (ROWS[0], pair))
        for y in (None, "10", (10,), [10], ()):
            self.check_rows(False, (ROWS[0], (DEF, y)))
        self.check_rows(True, ((ABC, 19), (DEF, 1)))
        self.check_rows(False, ((ABC, 19), (DEF, True)))

    def test_triples_of_another_form(self):
        good = (LABELS, ZERO, ROWS)
        self.check_no(GRAPH, CLAIM, good[:2], good + ((),), list(good), good[::-1], LABELS, (), None, ABC)

    def test_all_small_worths(self):
        graph = Graph(("a", "b", "c", "d"), GRAPH.edges[:4]).with_price("w", 1)
        rows = [row for row in slow.subsets(graph.nodes) if len(row) == 3]
        for marks in itertools.product((-1, 0, 1, 2), repeat=4):
            for weights in itertools.product((0, 1), repeat=4):
                pairs = tuple((row, y) for row, y in zip(rows, weights) if y)
                worths = [((name,), mark) for name, mark in zip(graph.nodes, marks)] + list(pairs)
                due = sum(y for _, y in worths) == 2 and all(
                    sum(y for row, y in worths if (edge[1] in row) != (edge[2] in row)) <= 2 * edge[3]
                    for edge in graph.edges
                )
                self.assertIs(perfect_holds(graph, ("perfect", 1), (("x", "w"), marks, pairs)), due)


class TestNone(WardCase):
    looker = perfect_holds

    def test_all_sets(self):
        for graph in [STAR, GRAPH] + [random_graph(seed, most_nodes=6, most_edges=7) for seed in range(150)]:
            for nodes in slow.subsets(graph.nodes):
                due = len(nodes) < slow.odd_parts(graph, nodes)
                self.assertIs(perfect_holds(graph, NONE, nodes), due)

    def test_right_ones(self):
        self.check_yes(STAR, NONE, ("h",), ("h", "a"))
        self.check_yes(Graph(("a", "b"), ()), NONE, ())

    def test_sets_with_too_few_odd_parts(self):
        self.check_no(STAR, NONE, (), ("p",), ("h", "q"), ("h", "q", "r"), STAR.nodes)

    def test_sets_that_are_no_rows(self):
        wrong = [("h", "p"), ("h", "h"), ["h"], "h", None, (None,), ("h", "zz"), (["h"],), (("h",),), 0, False]
        self.check_no(STAR, NONE, *wrong)


class TestForms(WardCase):
    looker = perfect_holds

    def test_claims_of_another_form(self):
        wrong = ODD_VALUES + [("perfect",), ("perfect", 10, 0), ["perfect", 10], (10, "perfect"), ("no perfect", 10)]
        wrong += [("perfect", price) for price in (None, True, "10", (10,), [10])] + [NONE]
        wrong += [(word, 10) for word in ("Perfect", "matching", "", None, ["perfect"])]
        for claim in wrong:
            self.check_no(GRAPH, claim, (LABELS, ZERO, ROWS))
        for claim in ODD_VALUES + [NONE + (0,), ["no perfect"], ("no Perfect",), ("no tour",), "no perfect", (NONE,)]:
            self.check_no(STAR, claim, ("h",))
        for zero in (False, None, "", ()):
            self.check_no(Graph((), ()), ("perfect", zero), ((), (), ()))

    def test_any_values(self):
        self.check_looker(GRAPH, CLAIM, (LABELS, ZERO, ROWS))
        self.check_looker(STAR, NONE, ("h", "a"))
        self.check_no(GRAPH, CLAIM, *ODD_VALUES)


if __name__ == "__main__":
    unittest.main()
