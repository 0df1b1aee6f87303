"""Points 7 and 9: the two readings, ways, walks, prices."""

import itertools
import unittest

from bridgeward.errors import UnknownEdge, UnknownNode
from bridgeward.graphs import Graph
from bridgeward.readings import degree, in_labels, is_walk, is_way, labels_at, other_end, out_labels, price_of
from samples import NO_NAMES, ODD_VALUES, WardCase, pairs_of, random_graph

# Loops at a, parallel edges and a turned one between a and b, a tail beyond, d alone.
GRAPH = Graph(
    ("a", "b", "c", "d"),
    (
        ("l", "a", "a", 5, 1), ("m", "a", "a", -7, 1), ("p", "a", "b", 1, 0), ("q", "a", "b", 2, 0),
        ("r", "b", "a", 4, 0), ("t", "b", "c", -8, 2),
    ),
)


def slow_is_way(graph, s, t, labels, undirected):
    """Follow the labels, keeping all places where one may stand."""
    here = {s}
    for label in labels:
        _, tail, head, _, _ = graph[label]
        there = {head} if tail in here else set()
        if undirected and head in here:
            there.add(tail)
        here = there
    return t in here


class TestLabels(WardCase):
    def test_labels(self):
        self.assertEqual([out_labels(GRAPH, n) for n in "abcd"], [("l", "m", "p", "q"), ("r", "t"), (), ()])
        self.assertEqual([in_labels(GRAPH, n) for n in "abcd"], [("l", "m", "r"), ("p", "q"), ("t",), ()])
        at = [("l", "m", "p", "q", "r"), ("p", "q", "r", "t"), ("t",), ()]
        self.assertEqual([labels_at(GRAPH, n) for n in "abcd"], at)
        self.assertEqual([degree(GRAPH, n) for n in "abcd"], [7, 4, 1, 0])

    def test_labels_like_nodes(self):
        graph = Graph(("a", "b"), (("a", "b", "b", 0, 0), ("b", "b", "b", 0, 0)))
        for call in (out_labels, in_labels, labels_at):
            self.assertEqual([call(graph, n) for n in "ab"], [(), ("a", "b")])
        self.assertEqual([degree(graph, n) for n in "ab"], [0, 4])

    def test_unknown_nodes(self):
        for call in (out_labels, in_labels, labels_at, degree):
            for name in NO_NAMES + ["e", "l"]:
                self.check_error(UnknownNode(name), call, GRAPH, name)

    def test_other_end(self):
        self.assertEqual(other_end(GRAPH, "p", "a"), "b")
        self.assertEqual(other_end(GRAPH, "p", "b"), "a")
        self.assertEqual(other_end(GRAPH, "r", "a"), "b")
        self.assertEqual(other_end(GRAPH, "m", "a"), "a")

    def test_other_end_errors(self):
        for label in NO_NAMES + ["a", "e"]:
            self.check_error(UnknownEdge(label), other_end, GRAPH, label, "a")
            self.check_error(UnknownEdge(label), other_end, GRAPH, label, "e")
        for name in NO_NAMES + ["c", "d", "e", "p"]:
            self.check_error(UnknownNode(name), other_end, GRAPH, "p", name)
        self.check_error(UnknownNode("b"), other_end, GRAPH, "l", "b")


class TestWays(WardCase):
    def test_nothing_leads_to_the_same_node_alone(self):
        for s, t in pairs_of(GRAPH):
            self.assertIs(is_way(GRAPH, s, t, ()), s == t)
            self.assertIs(is_walk(GRAPH, s, t, ()), s == t)

    def test_directions(self):
        self.assertIs(is_way(GRAPH, "a", "c", ("p", "t")), True)
        self.assertIs(is_way(GRAPH, "c", "a", ("t", "p")), False)
        self.assertIs(is_walk(GRAPH, "c", "a", ("t", "p")), True)
        self.assertIs(is_walk(GRAPH, "a", "a", ("p", "q")), True)
        self.assertIs(is_way(GRAPH, "a", "a", ("p", "q")), False)
        self.assertIs(is_walk(GRAPH, "c", "c", ("t", "t")), True)

    def test_edges_and_nodes_come_again(self):
        self.assertIs(is_way(GRAPH, "a", "b", ("l", "l", "m", "l", "p", "r", "p", "r", "q")), True)
        self.assertIs(is_walk(GRAPH, "a", "b", ("l", "p", "p", "l", "p", "p", "p")), True)
        self.assertIs(is_way(GRAPH, "a", "a", ("p", "r") * 1000), True)
        self.assertIs(is_way(GRAPH, "a", "b", ("p", "r") * 1000), False)

    def test_against_a_slow_look(self):
        for seed in range(12):
            graph = random_graph(seed, most_nodes=3, most_edges=4)
            labels = [edge[0] for edge in graph.edges]
            for many in range(5):
                for row in itertools.product(labels, repeat=many):
                    for s, t in pairs_of(graph):
                        self.assertIs(is_way(graph, s, t, row), slow_is_way(graph, s, t, row, False))
                        self.assertIs(is_walk(graph, s, t, row), slow_is_way(graph, s, t, row, True))

    def test_any_value_as_labels(self):
        for call in (is_way, is_walk):
            for value in [value for value in ODD_VALUES if value != ()] + [["p"], "p", ("p", None), ("a",)]:
                self.assertIs(call(GRAPH, "a", "b", value), False)
            for value in ODD_VALUES + ["e"]:
                self.assertIs(call(GRAPH, "a", "b", ("p", value)), False)
                self.assertIs(call(GRAPH, "a", "b", (value, "p")), False)
            self.assertIs(call(GRAPH, "a", "a", []), False)
            self.assertIs(call(GRAPH, "a", "a", None), False)

    def test_unknown_nodes(self):
        for call in (is_way, is_walk):
            for name in NO_NAMES + ["e", "p"]:
                self.check_error(UnknownNode(name), call, GRAPH, name, "f", ())
                self.check_error(UnknownNode(name), call, GRAPH, "a", name, None)
            self.check_error(UnknownNode("e"), call, GRAPH, "e", "e", ("p",))


class TestPrices(WardCase):
    def test_sums(self):
        for kind in (list, tuple):
            self.assertEqual(price_of(GRAPH, kind(())), 0)
            self.assertEqual(price_of(GRAPH, kind(("l", "m", "l", "t"))), -5)
            self.assertEqual(price_of(GRAPH, kind(("t", "l"))), -3)

    def test_first_unknown_label(self):
        for label in NO_NAMES + ["a", "e"]:
            self.check_error(UnknownEdge(label), price_of, GRAPH, ["l", label, "f"])
            self.check_error(UnknownEdge(label), price_of, GRAPH, (label, None))

    def test_arguments_stay(self):
        labels = ["l", "p"]
        price_of(GRAPH, labels)
        self.assertEqual(labels, ["l", "p"])


if __name__ == "__main__":
    unittest.main()
