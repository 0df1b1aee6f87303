"""Point 30: tours, the claims and their warrants."""

import itertools
import random
import unittest

import slow
from bridgeward.errors import Undefined, UnknownNode
from bridgeward.graphs import Graph
from bridgeward.tours import first_tour, tour_claim, tour_holds, tour_warrant
from samples import NO_NAMES, ODD_VALUES, WardCase, full_graphs, random_graph

TOUR = ("tour",)
NO_TOUR = ("no tour",)
# Two triangles at c, two edges between d and e, a loop at a; o without edges.
CLOSED = Graph(
    ("a", "b", "c", "d", "e", "o"),
    (
        ("x", "a", "b", 0, 0), ("l", "a", "a", 0, 0), ("y", "c", "b", 0, 0), ("w", "c", "d", 0, 0),
        ("z", "a", "c", 0, 0), ("v", "d", "e", 0, 0), ("u", "e", "d", 0, 0), ("t", "d", "c", 0, 0),
    ),
)
WHOLE = ("a", ("x", "y", "w", "v", "u", "t", "z", "l"))
# A star at h, a loop at q, two edges between r and s.
OPEN = Graph(
    ("h", "p", "q", "r", "s"),
    (("x", "h", "p", 0, 0), ("y", "q", "h", 0, 0), ("z", "r", "s", 0, 0), ("w", "s", "r", 0, 0), ("l", "q", "q", 0, 0)),
)
# Edges in two parts, all degrees even.
APART = Graph(
    ("a", "b", "c", "d", "o"),
    (("x", "a", "b", 0, 0), ("l", "c", "c", 0, 0), ("y", "a", "b", 0, 0), ("z", "c", "d", 0, 0), ("w", "d", "c", 0, 0)),
)


def closed_graph(seed, most_nodes, many):
    """A random graph with a tour, or without edges."""
    dice = random.Random(seed)
    nodes = tuple("abcdefgh"[: dice.randint(1, most_nodes)])
    row = [dice.choice(nodes) for _ in range(many)]
    edges = [(label, *dice.sample(ends, 2), 99, 20) for label, ends in zip("opqrstuvwxyzab", zip(row, row[1:] + row[:1]))]
    return Graph(nodes, dice.sample(edges, len(edges)))


class TestAnswers(WardCase):
    looker = tour_holds

    def check_graph(self, graph):
        tours = {name: next(slow.tours(graph, name), None) for name in graph.nodes}
        claim = TOUR if not graph.edges or any(tours.values()) else NO_TOUR
        self.assertEqual(tour_claim(graph), claim)
        warrant = tour_warrant(graph)
        self.assertEqual(tour_warrant(graph), warrant)
        self.check_yes(graph, claim, warrant)
        self.check_no(graph, NO_TOUR if claim == TOUR else TOUR, warrant)
        for name in graph.nodes:
            if tours[name] is None:
                self.check_error(Undefined("tour"), first_tour, graph, name)
            else:
                self.assertEqual(first_tour(graph, name), tours[name])

    def test_small_graphs_against_a_slow_count(self):
        for seed in range(300):
            self.check_graph(random_graph(seed, most_nodes=4, most_edges=6))

    def test_graphs_with_tours_against_a_slow_count(self):
        for seed in range(200):
            self.check_graph(closed_graph(seed, 5, seed % 8))

    def test_full_graphs_with_tours(self):
        for seed in range(60):
            graph = closed_graph(seed, 8, 14)
            self.assertEqual(tour_claim(graph), TOUR)
            self.check_yes(graph, TOUR, tour_warrant(graph))
            name = graph.edges[0][1]
            self.assertEqual(first_tour(graph, name), next(slow.tours(graph, name)))

    def test_full_graphs(self):
        for graph in full_graphs():
            odd = any(len([edge for edge in graph.edges if name in edge[1:3]]) % 2 for name in graph.nodes)
            self.assertEqual(tour_claim(graph), NO_TOUR if odd else TOUR)
            self.check_yes(graph, tour_claim(graph), tour_warrant(graph))

    def test_samples(self):
        for graph in (CLOSED, OPEN, APART):
            self.check_graph(graph)
        self.assertEqual([tour_claim(graph) for graph in (CLOSED, OPEN, APART)], [TOUR, NO_TOUR, NO_TOUR])
        self.assertEqual(first_tour(CLOSED, "a"), ("x", "y", "w", "v", "u", "t", "z", "l"))
        self.assertEqual(first_tour(CLOSED, "e"), ("v", "w", "y", "x", "l", "z", "t", "u"))

    def test_no_edges(self):
        for nodes in ((), ("a",), ("b", "a")):
            graph = Graph(nodes, ())
            self.assertEqual((tour_claim(graph), tour_warrant(graph)), (TOUR, ()))
            for name in nodes:
                self.assertEqual(first_tour(graph, name), ())

    def test_nodes_without_edges(self):
        self.check_error(Undefined("tour"), first_tour, CLOSED, "o")
        self.check_error(Undefined("tour"), first_tour, APART, "o")

    def test_loops(self):
        graph = Graph(("a", "b"), (("m", "b", "b", 0, 0), ("l", "b", "b", 0, 0)))
        self.check_graph(graph)
        self.assertEqual(first_tour(graph, "b"), ("m", "l"))
        self.check_error(Undefined("tour"), first_tour, graph, "a")

    def test_errors(self):
        for name in NO_NAMES + ["z", "x"]:
            for graph in (CLOSED, OPEN, APART, Graph((), ()), Graph(("c",), ())):
                self.check_error(UnknownNode(name), first_tour, graph, name)
        for graph in (OPEN, APART):
            for name in graph.nodes:
                self.check_error(Undefined("tour"), first_tour, graph, name)


class TestTours(WardCase):
    looker = tour_holds

    def test_right_ones(self):
        self.check_yes(
            CLOSED, TOUR, WHOLE, ("a", ("l", "x", "y", "w", "u", "v", "t", "z")),
            ("e", ("u", "t", "y", "x", "l", "z", "w", "v")), ("c", ("w", "v", "u", "t", "z", "l", "x", "y")),
        )

    def test_all_walks(self):
        for seed in range(60):
            graph = closed_graph(seed, 3, 4)
            labels = [edge[0] for edge in graph.edges]
            for name in graph.nodes:
                due = set(slow.tours(graph, name))
                for row in itertools.product(labels, repeat=4):
                    self.assertIs(tour_holds(graph, TOUR, (name, row)), row in due)

    def test_edges_that_are_left_out(self):
        self.check_no(
            CLOSED, TOUR, ("a", ("x", "y", "w", "v", "u", "t", "z")), ("a", ("l",)), ("a", ("x", "y", "z", "l")),
            ("e", ("v", "u")), ("a", ()),
        )

    def test_edges_that_come_twice(self):
        self.check_no(
            CLOSED, TOUR, ("a", ("x", "y", "w", "v", "u", "t", "z", "l", "l")),
            ("a", ("x", "y", "w", "v", "v", "t", "z", "l")), ("a", ("x", "x", "l", "l", "z", "y", "x", "l")),
            ("a", ("x", "y", "w", "v", "u", "t", "z", "l") * 2),
        )

    def test_walks_that_are_not_closed(self):
        graph = CLOSED.with_edge(("s", "a", "b", 0, 0))
        self.check_no(graph, TOUR, ("a", WHOLE[1] + ("s",)), ("b", ("s",) + WHOLE[1]), WHOLE)

    def test_tours_from_another_node(self):
        self.check_no(CLOSED, TOUR, *[(name, WHOLE[1]) for name in "bcdeo"], ("f", WHOLE[1]), ("x", WHOLE[1]))
        self.check_no(CLOSED, TOUR, *[(name, WHOLE[1]) for name in ODD_VALUES if name != "a"])

    def test_what_is_no_walk(self):
        self.check_no(CLOSED, TOUR, ("a", ("x", "w", "y", "v", "u", "t", "z", "l")), ("a", list(WHOLE[1])), ("a", "xyz"))
        self.check_no(CLOSED, TOUR, ("a", WHOLE[1][:-1] + ("k",)), ("a", None), ("a", WHOLE[1][:-1] + (None,)))
        self.check_no(CLOSED, TOUR, ("a", WHOLE[1][:-1] + (["l"],)))

    def test_no_edges(self):
        for nodes in ((), ("a",)):
            graph = Graph(nodes, ())
            self.check_yes(graph, TOUR, ())
            self.check_no(graph, TOUR, ("a", ()), ("b", ()), [], "", None, False, 0, ((),), (("a", ()),), ("a",))
            self.check_no(graph, NO_TOUR, (), ("odd", "a"), ("apart", ()), ("apart", ("a",)))

    def test_nothing_where_there_are_edges(self):
        self.check_no(CLOSED, TOUR, ())
        self.check_no(OPEN, TOUR, ())
        self.check_no(Graph(("a",), (("l", "a", "a", 0, 0),)), TOUR, (), ("a", ()))

    def test_pairs_of_another_form(self):
        self.check_no(CLOSED, TOUR, list(WHOLE), WHOLE[:1], WHOLE + ((),), WHOLE[::-1], WHOLE[1], None, "al", ("odd", "a"))


class TestNoTours(WardCase):
    looker = tour_holds

    def test_right_ones(self):
        self.check_yes(OPEN, NO_TOUR, ("odd", "p"), ("odd", "q"), ("apart", ("r", "s")), ("apart", ("h", "p", "q")))
        self.check_yes(
            APART, NO_TOUR, ("apart", ("a", "b")), ("apart", ("a", "b", "o")), ("apart", ("c", "d")),
            ("apart", ("c", "d", "o")),
        )

    def test_all_nodes(self):
        for graph in [CLOSED, OPEN, APART] + [random_graph(seed, most_nodes=5, most_edges=6) for seed in range(200)]:
            for name in graph.nodes:
                ends = [end for edge in graph.edges for end in edge[1:3]]
                self.assertIs(tour_holds(graph, NO_TOUR, ("odd", name)), ends.count(name) % 2 == 1)

    def test_all_sets(self):
        for graph in [CLOSED, OPEN, APART] + [random_graph(seed, most_nodes=5, most_edges=4) for seed in range(300)]:
            for nodes in slow.subsets(graph.nodes):
                counts = [len(set(edge[1:3]) & set(nodes)) / len(set(edge[1:3])) for edge in graph.edges]
                due = 1 in counts and 0 in counts and 0.5 not in counts
                self.assertIs(tour_holds(graph, NO_TOUR, ("apart", nodes)), due)

    def test_nodes_of_even_degree(self):
        self.check_no(OPEN, NO_TOUR, ("odd", "h"), ("odd", "r"), ("odd", "z"), ("odd", "x"))
        self.check_no(APART, NO_TOUR, *[("odd", name) for name in APART.nodes])

    def test_sets_with_all_edges_or_none(self):
        self.check_no(APART, NO_TOUR, ("apart", APART.nodes), ("apart", ("a", "b", "c", "d")), ("apart", ()), ("apart", ("o",)))
        self.check_no(CLOSED, NO_TOUR, ("apart", ("o",)), ("apart", ("a", "b", "c", "d", "e")))

    def test_sets_that_edges_leave(self):
        self.check_no(APART, NO_TOUR, ("apart", ("a", "b", "c")), ("apart", ("c",)), ("apart", ("b", "c", "d")))
        self.check_no(CLOSED, NO_TOUR, ("apart", ("a",)), ("apart", ("d", "e")), ("apart", ("a", "b", "c")))

    def test_sets_that_are_no_rows(self):
        wrong = [("b", "a"), ("a", "a", "b"), ["a", "b"], "ab", None, ("a", "b", "z"), ("a", "b", None), ("a", ["b"]), 0]
        self.check_no(APART, NO_TOUR, *[("apart", nodes) for nodes in wrong])

    def test_names_that_are_none(self):
        self.check_no(OPEN, NO_TOUR, *[("odd", name) for name in ODD_VALUES + ["z", ("p",), ["q"]]])

    def test_pairs_of_another_form(self):
        for graph, pair in ((OPEN, ("odd", "p")), (APART, ("apart", ("a", "b")))):
            self.check_yes(graph, NO_TOUR, pair)
            self.check_no(graph, NO_TOUR, list(pair), pair[:1], pair + ((),), pair[::-1], pair[1], (), None, pair[0])
            for word in ODD_VALUES + ["Odd", "even", "side", "apart" if pair[0] == "odd" else "odd"]:
                self.check_no(graph, NO_TOUR, (word, pair[1]))

    def test_claims_of_another_form(self):
        for graph, claim, warrant in ((CLOSED, TOUR, WHOLE), (OPEN, NO_TOUR, ("odd", "p")), (Graph((), ()), TOUR, ())):
            self.check_yes(graph, claim, warrant)
            wrong = ODD_VALUES + [claim + (0,), claim * 2, list(claim), claim[0], (claim,), (claim[0].upper(),)]
            for other in wrong + [("sides",), ("odd circle",), ("order",), NO_TOUR if claim == TOUR else TOUR]:
                self.check_no(graph, other, warrant)
            self.check_no(graph, claim, *[value for value in ODD_VALUES if value != warrant])

    def test_any_values(self):
        self.check_looker(CLOSED, TOUR, WHOLE)
        self.check_looker(OPEN, NO_TOUR, ("odd", "p"))
        self.check_looker(APART, NO_TOUR, ("apart", ("a", "b")))


if __name__ == "__main__":
    unittest.main()
