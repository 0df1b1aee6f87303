"""Points 1, 2, 5 and 6: graphs, their operators, changed graphs."""

import unittest

from bridgeward.errors import InvalidGraph, InvalidNumber, Taken, UnknownEdge, UnknownNode
from bridgeward.graphs import Graph
from samples import NO_NAMES, ODD_VALUES, nested

NODES = ("a", "b", "c")
EDGES = (("x", "a", "b", 2, 3), ("y", "b", "c", -1, 1), ("z", "a", "c", 4, 2))
NO_INTEGERS = [None, True, False, "", "1", (), (1,), [1], Graph((), ())]
NO_SEQUENCES = [None, True, 0, 1, "", "ab", b"ab", {}, {"a": 1}, {"a"}, Graph(("a",), ()), UnknownNode("a")]


def sample():
    return Graph(NODES, EDGES)


class GraphCase(unittest.TestCase):
    def check_error(self, error, kept, call, *values):
        """The call raises just this error, which keeps this very value."""
        with self.assertRaises(error) as caught:
            call(*values)
        self.assertIs(type(caught.exception), error)
        (held,) = vars(caught.exception).values()
        self.assertIs(type(held), type(kept))
        self.assertTrue(held is kept or held == kept, (held, kept))


class TestMaking(GraphCase):
    def test_lists_and_tuples(self):
        for nodes in (NODES, list(NODES)):
            for edges in (EDGES, list(EDGES)):
                graph = Graph(nodes, edges)
                self.assertEqual((graph.nodes, graph.edges), (NODES, EDGES))
                self.assertIs(type(graph.nodes), tuple)
                self.assertIs(type(graph.edges), tuple)

    def test_lists_that_change_afterwards(self):
        nodes, edges = list(NODES), list(EDGES)
        graph = Graph(nodes, edges)
        nodes.append("d")
        del edges[0]
        self.assertEqual((graph.nodes, graph.edges), (NODES, EDGES))
        self.assertEqual((nodes, edges), (["a", "b", "c", "d"], list(EDGES[1:])))

    def test_arguments_stay(self):
        nodes, edges = list(NODES), list(EDGES)
        Graph(nodes, edges)
        self.assertEqual((nodes, edges), (list(NODES), list(EDGES)))

    def test_no_nodes(self):
        for empty in ((), []):
            graph = Graph(empty, empty)
            self.assertEqual((graph.nodes, graph.edges, len(graph)), ((), (), 0))

    def test_loops_parallel_edges_and_labels_like_nodes(self):
        edges = (("a", "a", "a", 0, 0), ("b", "a", "a", 0, 0), ("c", "a", "b", 1, 1), ("d", "a", "b", 1, 1))
        graph = Graph(("a", "b"), edges)
        self.assertEqual(graph.edges, edges)
        self.assertEqual(graph["a"], edges[0])

    def test_names_of_one_and_eight_letters(self):
        graph = Graph(("z", "abcdefgh"), [("hgfedcba", "z", "abcdefgh", 10 ** 30, 10 ** 30)])
        self.assertEqual(graph.nodes, ("z", "abcdefgh"))
        self.assertEqual(graph["hgfedcba"][3], 10 ** 30)

    def test_nodes_that_are_no_sequence(self):
        for nodes in NO_SEQUENCES:
            self.check_error(InvalidGraph, nodes, Graph, nodes, ())

    def test_nodes_that_are_no_names(self):
        for name in NO_NAMES:
            for nodes in ([name], (name,), ["a", name], (name, "b")):
                self.check_error(InvalidGraph, nodes, Graph, nodes, ())

    def test_nodes_twice(self):
        for nodes in (("a", "a"), ["a", "b", "a"]):
            self.check_error(InvalidGraph, nodes, Graph, nodes, ())

    def test_edges_that_are_no_sequence(self):
        for edges in NO_SEQUENCES:
            self.check_error(InvalidGraph, edges, Graph, NODES, edges)

    def test_edges_that_are_no_edges(self):
        good = ("x", "a", "b", 0, 0)
        wrong = [edge for edge in ODD_VALUES if edge != ()] + [(), list(good), good[:4], good + (0,), nested(3)]
        wrong += [(name,) + good[1:] for name in NO_NAMES]
        wrong += [good[:1] + (name,) + good[2:] for name in NO_NAMES + ["d"]]
        wrong += [good[:2] + (name,) + good[3:] for name in NO_NAMES + ["d"]]
        wrong += [good[:3] + (price, 0) for price in NO_INTEGERS]
        wrong += [good[:4] + (room,) for room in NO_INTEGERS + [-1, -10 ** 12]]
        for edge in wrong:
            self.check_error(InvalidGraph, edge, Graph, NODES, [edge])
            self.check_error(InvalidGraph, edge, Graph, NODES, (("w", "a", "a", 0, 0), edge, None))

    def test_label_twice(self):
        again = ("x", "b", "a", 7, 7)
        self.check_error(InvalidGraph, again, Graph, NODES, EDGES + (again, ("x", "c", "c", 0, 0)))

    def test_several_wrong_things(self):
        first, second = ("x", "a", "q", 0, 0), ("x", "a", "b", True, 0)
        self.check_error(InvalidGraph, "ab", Graph, "ab", None)
        self.check_error(InvalidGraph, ["a", "a"], Graph, ["a", "a"], [first])
        self.check_error(InvalidGraph, first, Graph, NODES, [first, second])
        self.check_error(InvalidGraph, second, Graph, NODES, [second, first])

    def test_error_keeps_the_argument_itself(self):
        nodes, edge = ["a", "A"], ["x", "a", "b", 0, 0]
        with self.assertRaises(InvalidGraph) as caught:
            Graph(nodes, ())
        self.assertIs(caught.exception.value, nodes)
        with self.assertRaises(InvalidGraph) as caught:
            Graph(NODES, [edge])
        self.assertIs(caught.exception.value, edge)


class TestOperators(GraphCase):
    def test_equal(self):
        self.assertIs(sample() == Graph(list(NODES), list(EDGES)), True)
        self.assertIs(sample() != Graph(list(NODES), list(EDGES)), False)
        self.assertIs(Graph((), ()) == Graph([], []), True)

    def test_unlike(self):
        others = [
            Graph(("a", "c", "b"), EDGES), Graph(NODES + ("d",), EDGES), Graph(NODES, EDGES[:2]), Graph(NODES, ()),
            Graph(NODES, EDGES[::-1]), Graph(NODES, EDGES[:2] + (("z", "a", "c", 4, 1),)),
            Graph(NODES, EDGES[:2] + (("z", "a", "c", 3, 2),)), Graph(NODES, EDGES[:2] + (("z", "c", "a", 4, 2),)),
        ]
        for other in others:
            self.assertIs(sample() == other, False)
            self.assertIs(sample() != other, True)

    def test_equal_to_nothing_else(self):
        for other in ODD_VALUES + [(NODES, EDGES), [NODES, EDGES], str(sample()), NODES]:
            self.assertIs(sample() == other, False)
            self.assertIs(other == sample(), False)
        for other in [(), "", 0, None, False]:
            self.assertIs(Graph((), ()) == other, False)

    def test_len(self):
        self.assertEqual([len(Graph(NODES[:many], ())) for many in range(4)], [0, 1, 2, 3])

    def test_in(self):
        graph = sample()
        for name in NODES:
            self.assertIs(name in graph, True)
        for value in NO_NAMES + ["x", "y", "d", "abcdefgh", ["a", "b", "c"], NODES]:
            self.assertIs(value in graph, False)

    def test_item(self):
        graph = sample()
        for edge in EDGES:
            self.assertEqual(graph[edge[0]], edge)
        for label in NO_NAMES + ["a", "w", EDGES[0], ["x"]]:
            self.check_error(UnknownEdge, label, graph.__getitem__, label)

    def test_not_iterable(self):
        for graph in (sample(), Graph((), ())):
            for call in (iter, list, tuple, set, sorted):
                with self.assertRaises(TypeError):
                    call(graph)
            with self.assertRaises(TypeError):
                [name for name in graph]

    def test_place(self):
        graph = sample()
        self.assertEqual([graph.place(name) for name in NODES], [0, 1, 2])
        for name in NO_NAMES + ["x", "d"]:
            self.check_error(UnknownNode, name, graph.place, name)


class TestChanges(GraphCase):
    def setUp(self):
        self.graph = sample()

    def tearDown(self):
        self.assertEqual((self.graph.nodes, self.graph.edges), (NODES, EDGES))

    def check_graph(self, graph, nodes, edges):
        self.assertIs(type(graph), Graph)
        self.assertIsNot(graph, self.graph)
        self.assertEqual((graph.nodes, graph.edges), (nodes, edges))

    def test_with_node(self):
        self.check_graph(self.graph.with_node("x"), NODES + ("x",), EDGES)
        self.check_graph(self.graph.with_node("aa"), NODES + ("aa",), EDGES)
        for name in NO_NAMES:
            self.check_error(InvalidGraph, name, self.graph.with_node, name)
        for name in NODES:
            self.check_error(Taken, name, self.graph.with_node, name)

    def test_without_node(self):
        self.check_graph(self.graph.without_node("b"), ("a", "c"), EDGES[2:])
        self.check_graph(self.graph.without_node("a"), ("b", "c"), EDGES[1:2])
        for name in NO_NAMES + ["x", "d"]:
            self.check_error(UnknownNode, name, self.graph.without_node, name)

    def test_without_node_with_loops(self):
        looped = Graph(("a", "b"), (("l", "a", "a", 0, 0), ("m", "b", "b", 0, 0), ("a", "b", "b", 1, 1)))
        self.check_graph(looped.without_node("a"), ("b",), (("m", "b", "b", 0, 0), ("a", "b", "b", 1, 1)))
        self.check_graph(looped.without_node("b").without_node("a"), (), ())

    def test_with_edge(self):
        for edge in [("w", "a", "a", -99, 0), ("a", "c", "a", 0, 20), ("w", "a", "b", 2, 3)]:
            self.check_graph(self.graph.with_edge(edge), NODES, EDGES + (edge,))

    def test_with_edge_of_wrong_form(self):
        good = ("w", "a", "b", 0, 0)
        wrong = ODD_VALUES + [list(good), good[:4], good + (0,)]
        wrong += [good[:at] + (name,) + good[at + 1:] for at in range(3) for name in NO_NAMES]
        wrong += [good[:3] + (price, 0) for price in NO_INTEGERS]
        wrong += [good[:4] + (room,) for room in NO_INTEGERS + [-1]]
        # What is of a wrong form comes ahead of ends that are no nodes and labels that are taken.
        wrong += [("x", "q", "r", 0, -1), ("x", "q", "r", None, 0), ("x", "q", "R", 0, 0)]
        for edge in wrong:
            self.check_error(InvalidGraph, edge, self.graph.with_edge, edge)

    def test_with_edge_errors_in_order(self):
        self.check_error(UnknownNode, "q", self.graph.with_edge, ("x", "q", "r", 0, 0))
        self.check_error(UnknownNode, "r", self.graph.with_edge, ("x", "a", "r", 0, 0))
        self.check_error(UnknownNode, "q", self.graph.with_edge, ("w", "q", "a", 0, 0))
        self.check_error(UnknownNode, "x", self.graph.with_edge, ("y", "x", "x", 0, 0))
        self.check_error(Taken, "x", self.graph.with_edge, ("x", "a", "b", 0, 0))
        self.check_error(Taken, "z", self.graph.with_edge, EDGES[2])

    def test_without_edge(self):
        self.check_graph(self.graph.without_edge("y"), NODES, (EDGES[0], EDGES[2]))
        for label in NO_NAMES + ["a", "w"]:
            self.check_error(UnknownEdge, label, self.graph.without_edge, label)

    def test_with_price(self):
        for price in (0, -99, 99, 10 ** 20):
            changed = (EDGES[0], ("y", "b", "c", price, 1), EDGES[2])
            self.check_graph(self.graph.with_price("y", price), NODES, changed)
        for price in NO_INTEGERS:
            self.check_error(InvalidNumber, price, self.graph.with_price, "y", price)
        for label in NO_NAMES + ["a", "w"]:
            self.check_error(UnknownEdge, label, self.graph.with_price, label, True)

    def test_with_room(self):
        for room in (0, 1, 20, 10 ** 20):
            changed = (EDGES[0], ("y", "b", "c", -1, room), EDGES[2])
            self.check_graph(self.graph.with_room("y", room), NODES, changed)
        for room in NO_INTEGERS + [-1, -10 ** 12]:
            self.check_error(InvalidNumber, room, self.graph.with_room, "y", room)
        for label in NO_NAMES + ["a", "w"]:
            self.check_error(UnknownEdge, label, self.graph.with_room, label, -1)


if __name__ == "__main__":
    unittest.main()
