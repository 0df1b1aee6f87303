"""Point 26: greatest matchings, the claim and its warrants."""

import unittest

import slow
from bridgeward.graphs import Graph
from bridgeward.matchings import matching_claim, matching_holds, matching_size, matching_warrant
from samples import ODD_VALUES, WardCase, full_graphs, random_graph

# A hub h of p, q and r and of a triangle a b c; two edges from h to p, a loop at r, o without edges.
GRAPH = Graph(
    ("a", "b", "c", "h", "p", "q", "r", "o"),
    (
        ("x", "a", "b", 0, 0), ("y", "c", "b", 0, 0), ("z", "a", "c", 0, 0), ("w", "c", "h", 0, 0),
        ("t", "h", "p", 0, 0), ("u", "p", "h", 0, 0), ("v", "h", "q", 0, 0), ("s", "r", "h", 0, 0),
        ("l", "r", "r", 0, 0),
    ),
)
CLAIM = ("matching", 2)
HUB = ("h",)


class TestAnswers(WardCase):
    looker = matching_holds

    def check_graph(self, graph):
        size = max(map(len, slow.matchings(graph)))
        self.assertEqual(matching_size(graph), size)
        self.assertEqual(matching_claim(graph), ("matching", size))
        warrant = matching_warrant(graph)
        self.assertEqual(matching_warrant(graph), warrant)
        for k in range(-1, size + 3):
            self.assertIs(matching_holds(graph, ("matching", k), warrant), k == size)

    def test_small_graphs_against_all_matchings(self):
        for seed in range(500):
            self.check_graph(random_graph(seed, most_nodes=7, most_edges=9))

    def test_full_graphs(self):
        for graph in full_graphs():
            self.check_graph(graph)

    def test_odd_circles_joined_by_edges(self):
        rings = "ab bc ca de ef fd gh".split()
        for joining in (["cd"], ["cd", "fg"], ["cg", "dh"], ["ag", "bh", "ch"], ["gd", "ge", "gf"]):
            edges = [(label, *ends, 0, 0) for label, ends in zip("pqrstuvwxyz", rings + joining)]
            self.check_graph(Graph(tuple("abcdefgh"), edges))
            self.check_graph(Graph(tuple("hfdbgeca"), edges[::-1]))

    def test_graphs_a_little_beyond_the_limits(self):
        ring = "abcdefghijk"
        edges = [(label, one, other, 0, 0) for label, one, other in zip("pqrstuvwxyz", ring, ring[1:] + "a")]
        self.assertEqual(matching_claim(Graph(tuple(ring), edges)), ("matching", 5))
        self.check_graph(Graph(tuple(ring), edges))
        self.assertEqual(matching_size(Graph(tuple(ring) + ("l",), edges + [("n", "l", "c", 0, 0)])), 6)

    def test_samples(self):
        self.check_graph(GRAPH)
        self.assertEqual(matching_size(GRAPH), 2)
        for graph in (Graph((), ()), Graph(("a", "b"), ()), Graph(("a",), (("l", "a", "a", 0, 0),))):
            self.check_graph(graph)
            self.assertEqual((matching_size(graph), matching_warrant(graph)), (0, ((), ())))


class TestWarrants(WardCase):
    looker = matching_holds

    def test_right_ones(self):
        self.check_yes(
            GRAPH, CLAIM, (("x", "v"), HUB), (("y", "t"), HUB), (("z", "s"), HUB), (("x", "u"), HUB), (("x", "w"), HUB),
        )

    def test_all_small_warrants(self):
        for seed in range(100):
            graph = random_graph(seed, most_nodes=5, most_edges=6)
            matchings = slow.matchings(graph)
            for nodes in slow.subsets(graph.nodes):
                bound = len(graph) + len(nodes) - slow.odd_parts(graph, nodes)
                for labels in slow.subsets([edge[0] for edge in graph.edges]):
                    k = len(labels)
                    due = labels in matchings and bound == 2 * k
                    self.assertIs(matching_holds(graph, ("matching", k), (labels, nodes)), due)

    def test_edges_with_a_common_end(self):
        for labels in (("t", "v"), ("x", "y"), ("t", "u"), ("w", "v"), ("y", "w")):
            self.check_no(GRAPH, CLAIM, (labels, HUB))
        graph = Graph(("a", "b", "c", "d"), [(label, "a", other, 0, 0) for label, other in zip("xyz", "bcd")])
        self.check_no(graph, CLAIM, (("x", "y"), ()), (("x", "z"), ()))

    def test_loops(self):
        self.check_no(GRAPH, CLAIM, (("x", "l"), HUB), (("t", "l"), HUB))
        graph = Graph(("a", "b"), (("l", "a", "a", 0, 0), ("x", "a", "b", 0, 0)))
        self.check_yes(graph, ("matching", 1), (("x",), ()))
        self.check_no(graph, ("matching", 1), (("l",), ()))

    def test_matchings_of_another_number(self):
        self.check_no(GRAPH, CLAIM, (("x",), HUB), ((), HUB))
        self.check_no(GRAPH, ("matching", 1), (("x",), HUB), (("x", "v"), HUB))
        self.check_no(GRAPH, ("matching", 3), (("x", "v"), HUB))

    def test_nodes_that_do_not_bound(self):
        for nodes in slow.subsets(GRAPH.nodes):
            if nodes != HUB:
                self.check_no(GRAPH, CLAIM, (("x", "v"), nodes))

    def test_nodes_that_bound_a_greater_number(self):
        self.check_no(GRAPH, ("matching", 1), (("x",), HUB), (("x",), ()), (("t",), ("h", "a", "b")))

    def test_labels_in_another_order(self):
        wrong = [("v", "x"), ("x", "x"), ("x", "v", "v"), ("x", "q"), ["x", "v"], "xv", None, ("x", None), ("x", ["v"])]
        self.check_no(GRAPH, CLAIM, *[(labels, HUB) for labels in wrong])

    def test_nodes_that_are_no_row(self):
        wrong = [("h", "h"), ("h", "z"), ["h"], "h", None, (None,), (["h"],), (("h",),), 1, True]
        self.check_no(GRAPH, CLAIM, *[(("x", "v"), nodes) for nodes in wrong])
        pair = Graph(("a", "b", "c"), (("x", "a", "b", 0, 0), ("y", "a", "b", 0, 0)))
        self.check_yes(pair, ("matching", 1), (("x",), ("a",)), (("y",), ()), (("y",), ("b",)))
        four = Graph(("a", "b", "c", "d"), (("x", "a", "b", 0, 0), ("y", "c", "d", 0, 0)))
        self.check_yes(four, CLAIM, (("x", "y"), ("a", "c")))
        self.check_no(four, CLAIM, (("x", "y"), ("c", "a")), (("x", "y"), ("a", "a", "c")))

    def test_pairs_of_another_form(self):
        good = (("x", "v"), HUB)
        self.check_no(GRAPH, CLAIM, good[:1], good + ((),), list(good), good[::-1], good[0], HUB, (), None)

    def test_claims_of_another_form(self):
        wrong = ODD_VALUES + [("matching",), ("matching", 2, 0), ["matching", 2], (2, "matching"), ("perfect", 2)]
        wrong += [("matching", k) for k in (None, True, "2", (2,), [2], 1, 3, -2)]
        wrong += [(word, 2) for word in ("Matching", "cover", "", None, ["matching"])]
        for claim in wrong:
            self.check_no(GRAPH, claim, (("x", "v"), HUB))
        one = Graph(("a", "b"), (("x", "a", "b", 0, 0),))
        self.check_yes(one, ("matching", 1), (("x",), ()))
        self.check_no(one, ("matching", True), (("x",), ()))
        for zero in (False, None, "", ()):
            self.check_no(Graph(("a",), ()), ("matching", zero), ((), ()))

    def test_any_values(self):
        self.check_looker(GRAPH, CLAIM, (("x", "v"), HUB))
        self.check_no(GRAPH, CLAIM, *ODD_VALUES)


if __name__ == "__main__":
    unittest.main()
