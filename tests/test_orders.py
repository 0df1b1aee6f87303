"""Points 21 and 22: strong parts and orders, their claims and warrants."""

import itertools
import unittest

import slow
from bridgeward.errors import InvalidQuestion, Undefined
from bridgeward.graphs import Graph
from bridgeward.orders import first_order, order_claim, order_holds, order_warrant, strong_parts
from samples import ODD_VALUES, WardCase, full_graphs, random_graph

# A round a b c with a way back from b, a round of two nodes d and e with parallel edges, a loop at f; g alone.
GRAPH = Graph(
    ("a", "b", "c", "d", "e", "f", "g"),
    (
        ("x", "a", "b", 0, 0), ("y", "b", "c", 0, 0), ("z", "c", "a", 0, 0), ("w", "b", "a", 0, 0),
        ("v", "c", "d", 0, 0), ("t", "d", "e", 0, 0), ("s", "e", "d", 0, 0), ("u", "e", "d", 0, 0),
        ("r", "a", "f", 0, 0), ("l", "f", "f", 0, 0), ("q", "f", "e", 0, 0),
    ),
)
ROWS = (("a", "b", "c"), ("d", "e"), ("f",), ("g",))
STRONG = ("strong", ROWS)
ROUNDS = (("x", "y", "z"), ("t", "s"), (), ())
RANKS = (0, 9, 4, 4)
# a before b and c, d behind both, e alone.
LINE = Graph(
    ("d", "c", "b", "a", "e"),
    (("x", "a", "b", 0, 0), ("y", "a", "c", 0, 0), ("z", "b", "d", 0, 0), ("w", "c", "d", 0, 0), ("v", "a", "b", 0, 0)),
)
ORDER = ("order",)
ROUND = ("round",)


class TestAnswers(WardCase):
    looker = order_holds

    def check_graph(self, graph):
        rows = slow.strong_parts(graph)
        self.assertEqual(strong_parts(graph), rows)
        self.assertEqual(order_claim(graph, "strong"), ("strong", rows))
        self.check_warrant(graph, ("strong", rows), "strong")
        for other in [rows[1:], rows[::-1], rows + rows[:1], rows + (("q",),), list(rows), rows[:-1] + ((),)]:
            if other != rows:
                self.check_no(graph, ("strong", other), order_warrant(graph, "strong"))
        orders = list(slow.orders(graph))
        claim = ORDER if orders else ROUND
        self.assertEqual(order_claim(graph, "order"), claim)
        self.check_warrant(graph, claim, "order")
        self.check_no(graph, ROUND if orders else ORDER, order_warrant(graph, "order"))
        if orders:
            self.assertEqual(first_order(graph), min(orders, key=lambda row: list(map(graph.nodes.index, row))))
        else:
            self.check_error(Undefined("order"), first_order, graph)

    def check_warrant(self, graph, claim, kind):
        warrant = order_warrant(graph, kind)
        self.assertEqual(order_warrant(graph, kind), warrant)
        self.check_yes(graph, claim, warrant)
        self.check_small_integers(warrant)

    def test_small_graphs_against_a_slow_count(self):
        for seed in range(600):
            self.check_graph(random_graph(seed, most_nodes=5, most_edges=8))

    def test_graphs_with_an_order_against_a_slow_count(self):
        for seed in range(300):
            graph = random_graph(seed, most_nodes=6, most_edges=8)
            row = graph.nodes[::2] + graph.nodes[1::2]
            edges = [edge for edge in graph.edges if row.index(edge[1]) < row.index(edge[2])]
            self.check_graph(Graph(graph.nodes, edges))

    def test_full_graphs(self):
        for graph in full_graphs():
            self.assertEqual(strong_parts(graph), slow.strong_parts(graph))
            self.check_warrant(graph, ("strong", slow.strong_parts(graph)), "strong")
            claim = order_claim(graph, "order")
            self.assertEqual(claim, ORDER if len(strong_parts(graph)) == 8 else ROUND)
            self.check_warrant(graph, claim, "order")

    def test_full_graphs_with_an_order(self):
        for graph in full_graphs():
            row = graph.nodes[::3] + graph.nodes[1::3] + graph.nodes[2::3]
            ends = [sorted(edge[1:3], key=row.index) for edge in graph.edges]
            graph = Graph(graph.nodes, [edge[:1] + tuple(pair) + edge[3:] for edge, pair in zip(graph.edges, ends)])
            due = next(row for row in itertools.permutations(graph.nodes) if self.ascends(graph, row))
            self.assertEqual(first_order(graph), due)
            self.check_warrant(graph, ORDER, "order")
            self.check_warrant(graph, ("strong", tuple((name,) for name in graph.nodes)), "strong")

    def ascends(self, graph, row):
        return all(row.index(edge[1]) < row.index(edge[2]) for edge in graph.edges)

    def test_samples(self):
        self.assertEqual((strong_parts(GRAPH), order_claim(GRAPH, "order")), (ROWS, ROUND))
        self.assertEqual(strong_parts(LINE), (("d",), ("c",), ("b",), ("a",), ("e",)))
        self.assertEqual(first_order(LINE), ("a", "c", "b", "d", "e"))
        self.check_graph(LINE)
        self.check_warrant(GRAPH, STRONG, "strong")
        self.check_warrant(GRAPH, ROUND, "order")
        self.check_error(Undefined("order"), first_order, GRAPH)

    def test_nothing(self):
        empty = Graph((), ())
        self.check_graph(empty)
        self.assertEqual((strong_parts(empty), first_order(empty), order_warrant(empty, "strong")), ((), (), ((), ())))

    def test_loops(self):
        graph = Graph(("a", "b"), (("l", "b", "b", 0, 0),))
        self.check_graph(graph)
        self.assertEqual(order_claim(graph, "order"), ROUND)
        self.assertEqual(order_warrant(graph, "order"), ("b", ("l",)))
        self.assertEqual(order_warrant(graph, "strong")[0], ((), ()))

    def test_rounds_of_two_nodes(self):
        graph = Graph(("a", "b"), (("x", "a", "b", 0, 0), ("y", "b", "a", 0, 0), ("z", "a", "b", 0, 0)))
        self.check_graph(graph)
        self.assertEqual(strong_parts(graph), (("a", "b"),))
        self.assertEqual(strong_parts(graph.without_edge("y")), (("a",), ("b",)))

    def test_kinds(self):
        for call in (order_claim, order_warrant):
            for kind in ODD_VALUES + ["round", "parts", "Order", "orders", ("order",), ["strong"], "strong "]:
                self.check_error(InvalidQuestion(kind), call, GRAPH, kind)
                self.check_error(InvalidQuestion(kind), call, LINE, kind)


class TestStrong(WardCase):
    looker = order_holds

    def test_right_ones(self):
        self.check_yes(
            GRAPH, STRONG, (ROUNDS, RANKS), (ROUNDS, (-9, 3, 2, -99)), (ROUNDS, (0, 2, 1, 0)),
            ((("x", "w", "x", "y", "z"), ("t", "u"), (), ()), RANKS),
            ((("x", "y", "z") * 2, ("t", "s", "t", "u"), (), ()), RANKS),
        )

    def test_all_small_warrants(self):
        for seed in range(150):
            graph = random_graph(seed, most_nodes=3, most_edges=5)
            rows = slow.strong_parts(graph)
            rounds = order_warrant(graph, "strong")[0]
            for ranks in itertools.product(range(3), repeat=len(rows)):
                due = all(self.rises(rows, ranks, edge) for edge in graph.edges)
                self.check_due(due, graph, ("strong", rows), (rounds, ranks))

    def rises(self, rows, ranks, edge):
        tail, head = [[edge[end] in row for row in rows].index(True) for end in (1, 2)]
        return tail == head or ranks[tail] < ranks[head]

    def check_due(self, due, graph, claim, warrant):
        (self.check_yes if due else self.check_no)(graph, claim, warrant)

    def test_all_rounds_of_one_part(self):
        graph = Graph(("a", "b", "c"), GRAPH.edges[:4] + (("l", "b", "b", 0, 0),))
        heads = {edge[0]: edge[1:3] for edge in graph.edges}
        for many in range(7):
            for labels in itertools.product("xyzwl", repeat=many):
                ends = [heads[label] for label in labels]
                joined = all(one[1] == other[0] for one, other in zip(ends, ends[1:]))
                closed = bool(ends) and joined and ends[0][0] == ends[-1][1] == "a"
                due = closed and {head for _, head in ends} == {"a", "b", "c"}
                self.check_due(due, graph, ("strong", (graph.nodes,)), ((labels,), (0,)))

    def test_rounds_that_miss_a_node(self):
        for labels in (("x", "w"), (), ("x",)):
            self.check_no(GRAPH, STRONG, ((labels,) + ROUNDS[1:], RANKS))

    def test_rounds_from_another_node(self):
        self.check_no(GRAPH, STRONG, ((("y", "z", "x"),) + ROUNDS[1:], RANKS))
        self.check_no(GRAPH, STRONG, ((ROUNDS[0], ("s", "t"), (), ()), RANKS))

    def test_rounds_that_are_no_ways(self):
        for labels in (("x", "z", "y"), ("x", "y"), ("x", "y", "z", "x"), ["x", "y", "z"], "xyz", ("x", "y", "r"), None):
            self.check_no(GRAPH, STRONG, ((labels,) + ROUNDS[1:], RANKS))
        self.check_no(GRAPH, STRONG, ((ROUNDS[0], ("t", "t"), (), ()), RANKS))

    def test_rounds_of_rows_of_one_node(self):
        for labels in (("l",), None, [], "", ("l", "l"), 0, False, ((),)):
            self.check_no(GRAPH, STRONG, (ROUNDS[:2] + (labels, ()), RANKS))

    def test_ranks_that_do_not_rise(self):
        for ranks in ((9, 9, 4, 4), (0, 4, 4, 4), (4, 9, 4, 4), (0, -1, 4, 4), (5, 9, 4, 4), (0, 3, 4, 0), (9, 4, 0, 0)):
            self.check_no(GRAPH, STRONG, (ROUNDS, ranks))

    def test_ranks_that_are_no_integers(self):
        for rank in (None, True, False, "4", (4,), [4], ()):
            self.check_no(GRAPH, STRONG, (ROUNDS, (0, 9, 4, rank)), (ROUNDS, (-1, 9, rank, 4)))
        self.check_no(GRAPH, STRONG, (ROUNDS, (False, 9, 4, 4)))

    def test_another_number_of_members(self):
        self.check_no(GRAPH, STRONG, (ROUNDS[:3], RANKS), (ROUNDS + ((),), RANKS), (ROUNDS, RANKS[:3]))
        self.check_no(GRAPH, STRONG, (ROUNDS, RANKS + (4,)), (ROUNDS,), (ROUNDS, RANKS, ()), (RANKS, ROUNDS), ())
        self.check_no(GRAPH, STRONG, [ROUNDS, RANKS], (list(ROUNDS), RANKS), (ROUNDS, list(RANKS)), ROUNDS, RANKS)

    def test_rows_that_are_finer(self):
        rows = (("a", "b", "c"), ("d",), ("e",), ("f",), ("g",))
        for ranks in itertools.permutations(range(5)):
            self.check_no(GRAPH, ("strong", rows), ((ROUNDS[0], (), (), (), ()), ranks))

    def test_rows_that_are_coarser(self):
        rows = (("a", "b", "c"), ("d", "e"), ("f", "g"))
        self.check_no(GRAPH, ("strong", rows), (ROUNDS[:3], RANKS[:3]), (ROUNDS[:2] + (("l",),), RANKS[:3]))

    def test_rows_in_another_order(self):
        graph = Graph(("a", "b"), ())
        self.check_yes(graph, ("strong", (("a",), ("b",))), (((), ()), (0, 0)))
        self.check_no(graph, ("strong", (("b",), ("a",))), (((), ()), (0, 0)))
        self.check_no(graph, ("strong", (("a",), ("a",), ("b",))), (((), (), ()), (0, 0, 0)))
        self.check_no(graph, ("strong", (("a",),)), (((),), (0,)))
        self.check_no(graph, ("strong", (("a",), ("b",), ())), (((), (), ()), (0, 0, 0)))
        self.check_no(graph, ("strong", [("a",), ("b",)]), (((), ()), (0, 0)))
        self.check_no(graph, ("strong", (["a"], ("b",))), (((), ()), (0, 0)))
        both = Graph(("a", "b"), (("x", "a", "b", 0, 0), ("y", "b", "a", 0, 0)))
        self.check_yes(both, ("strong", (("a", "b"),)), ((("x", "y"),), (0,)))
        self.check_no(both, ("strong", (("b", "a"),)), ((("y", "x"),), (0,)), ((("x", "y"),), (0,)))
        self.check_no(both, ("strong", (("a", "b", "b"),)), ((("x", "y"),), (0,)))


class TestOrder(WardCase):
    looker = order_holds

    def test_right_ones(self):
        for row in ("acbde", "eabcd", "abced", "aecbd"):
            self.check_yes(LINE, ORDER, tuple(row))
        self.check_yes(Graph((), ()), ORDER, ())

    def test_all_rows(self):
        for seed in range(150):
            graph = random_graph(seed, most_nodes=4, most_edges=4)
            due = set(slow.orders(graph))
            for many in range(len(graph) + 2):
                for row in itertools.product(graph.nodes, repeat=many):
                    self.assertIs(order_holds(graph, ORDER, row), row in due)

    def test_rows_against_an_edge(self):
        for row in ("dcbae", "bacde", "cabde", "adcbe", "abdce"):
            self.check_no(LINE, ORDER, tuple(row))

    def test_rows_of_other_nodes(self):
        self.check_no(LINE, ORDER, *[tuple(row) for row in ("acbd", "acbdee", "acbdq", "acbdd", "acbdeq", "")])
        self.check_no(LINE, ORDER, ["a", "c", "b", "d", "e"], "acbde", ("a", "c", "b", "d", None), (tuple("acbde"),))

    def test_loops(self):
        self.check_no(LINE.with_edge(("l", "e", "e", 0, 0)), ORDER, ("a", "c", "b", "d", "e"))


class TestRound(WardCase):
    looker = order_holds

    def test_right_ones(self):
        self.check_yes(
            GRAPH, ROUND, ("a", ("x", "y", "z")), ("b", ("y", "z", "x")), ("c", ("z", "x", "y") * 2), ("f", ("l",)),
            ("f", ("l", "l")), ("d", ("t", "u", "t", "s")), ("b", ("w", "x", "w", "x")),
        )

    def test_rounds_without_edges(self):
        self.check_no(GRAPH, ROUND, *[(name, ()) for name in GRAPH.nodes])
        self.check_no(LINE, ROUND, *[(name, ()) for name in LINE.nodes])

    def test_rounds_that_are_not_closed(self):
        self.check_no(GRAPH, ROUND, ("a", ("x", "y")), ("a", ("x", "y", "z", "x")), ("f", ("q",)))

    def test_rounds_from_another_node(self):
        self.check_no(GRAPH, ROUND, ("b", ("x", "y", "z")), ("q", ("x", "y", "z")), ("e", ("l",)), ("x", ("x",)))

    def test_rounds_against_an_edge(self):
        graph = GRAPH.without_edge("z").with_edge(("z", "a", "c", 0, 0))
        self.check_no(graph, ROUND, ("a", ("x", "y", "z")))
        self.check_no(LINE, ROUND, ("a", ("x", "v")), ("a", ("x", "z", "w", "y")))

    def test_names_that_are_none(self):
        for name in ODD_VALUES:
            if name not in ("a", "b"):
                self.check_no(GRAPH, ROUND, (name, ("x", "y", "z")), (name, ()))

    def test_pairs_of_another_form(self):
        good = ("a", ("x", "y", "z"))
        self.check_no(GRAPH, ROUND, list(good), good[:1], good + ((),), good[::-1], good[1], ("a", ["x", "y", "z"]))
        self.check_no(GRAPH, ROUND, ("a", "xyz"), ("a", None), ("a", ("x", "y", None)), (), None, "ax", ("a", "x"))


class TestForms(WardCase):
    looker = order_holds

    def test_claims_of_another_form(self):
        cases = ((GRAPH, STRONG, (ROUNDS, RANKS)), (GRAPH, ROUND, ("f", ("l",))), (LINE, ORDER, tuple("acbde")))
        for graph, claim, warrant in cases:
            self.check_yes(graph, claim, warrant)
            wrong = ODD_VALUES + [claim[:-1], claim + ((),), claim + (0,), list(claim), claim[0], claim[-1]]
            wrong += [(word,) + claim[1:] for word in ("parts", "Order", "way", "", None, ["order"], True)]
            for other in wrong:
                self.check_no(graph, other, warrant)
            self.check_no(graph, claim, *ODD_VALUES)

    def test_claims_that_are_not_true(self):
        self.check_no(GRAPH, ORDER, *map(tuple, itertools.permutations("abcdefg")))
        self.check_no(LINE, ROUND, *[(name, labels) for name in LINE.nodes for labels in slow.subsets("xyzwv")])

    def test_any_values(self):
        self.check_looker(GRAPH, STRONG, (ROUNDS, RANKS))
        self.check_looker(GRAPH, ROUND, ("a", ("x", "y", "z")))
        self.check_looker(LINE, ORDER, tuple("acbde"))


if __name__ == "__main__":
    unittest.main()
