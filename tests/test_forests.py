"""Points 23 and 24: cheapest spanning forests, the claim and its warrants."""

import unittest

import slow
from bridgeward.forests import first_forest, forest_claim, forest_holds, forest_price, forest_warrant
from bridgeward.graphs import Graph
from samples import ODD_VALUES, WardCase, full_graphs, random_graph

# A circle a b c with two edges from a to b, d behind it by a price below 0, loops; o with a loop, p without edges.
GRAPH = Graph(
    ("a", "b", "c", "d", "o", "p"),
    (
        ("x", "a", "b", 1, 0), ("w", "b", "a", 1, 0), ("z", "c", "a", 2, 0), ("y", "b", "c", 1, 0),
        ("v", "d", "c", -2, 0), ("l", "d", "d", -9, 0), ("m", "o", "o", 5, 0),
    ),
)
CLAIM = ("forest", 0)
LABELS = ("x", "y", "v")


class TestAnswers(WardCase):
    looker = forest_holds

    def check_graph(self, graph):
        forests = list(slow.spanning_forests(graph))
        prices = [slow.price(graph, labels) for labels in forests]
        least = min(prices)
        self.assertEqual(forest_price(graph), least)
        self.assertEqual(forest_claim(graph), ("forest", least))
        self.assertEqual(first_forest(graph), self.slow_forest(graph))
        warrant = forest_warrant(graph)
        self.assertEqual(forest_warrant(graph), warrant)
        self.check_yes(graph, ("forest", least), warrant)
        self.check_no(graph, ("forest", least - 1), warrant)
        self.check_no(graph, ("forest", least + 1), warrant)
        for labels, price in zip(forests, prices):
            self.assertIs(forest_holds(graph, ("forest", price), labels), price == least)

    def slow_forest(self, graph):
        """The edges by price, those of one price in edge order, each taken if fewer sets come of it."""
        taken = []
        for price in sorted({edge[3] for edge in graph.edges}):
            for edge in graph.edges:
                sets = slow.joined_sets(graph.nodes, taken)
                if edge[3] == price and len(slow.joined_sets(graph.nodes, taken + [edge])) < len(sets):
                    taken.append(edge)
        return tuple(edge[0] for edge in graph.edges if edge in taken)

    def test_small_graphs_against_all_forests(self):
        for seed in range(300):
            self.check_graph(random_graph(seed, most_nodes=6, most_edges=9))

    def test_many_edges_of_one_price(self):
        for seed in range(200):
            self.check_graph(random_graph(seed, most_nodes=5, most_edges=9, prices=(-1, 0)))

    def test_full_graphs(self):
        for graph in full_graphs()[:6]:
            self.check_graph(graph)
        for graph in full_graphs()[6:]:
            self.assertEqual(first_forest(graph), self.slow_forest(graph))
            self.check_yes(graph, forest_claim(graph), forest_warrant(graph))

    def test_sample(self):
        self.check_graph(GRAPH)
        self.assertEqual((forest_price(GRAPH), first_forest(GRAPH)), (0, LABELS))

    def test_edges_of_one_price_in_edge_order(self):
        graph = Graph(("a", "b", "c"), [(label, *ends, 4, 0) for label, ends in zip("zyx", ("ab", "bc", "ca"))])
        self.assertEqual(first_forest(graph), ("z", "y"))
        graph = graph.with_price("x", 3)
        self.assertEqual(first_forest(graph), ("z", "x"))

    def test_graphs_without_edges_to_take(self):
        for graph in (Graph((), ()), Graph(("a", "b"), ()), Graph(("a",), (("l", "a", "a", -99, 0),))):
            self.assertEqual((forest_price(graph), first_forest(graph), forest_claim(graph)), (0, (), ("forest", 0)))
            self.check_yes(graph, ("forest", 0), ())

    def test_all_rows_of_labels(self):
        for seed in range(80):
            graph = random_graph(seed, most_nodes=4, most_edges=6)
            forests = list(slow.spanning_forests(graph))
            least = min(slow.price(graph, labels) for labels in forests)
            for labels in slow.subsets([edge[0] for edge in graph.edges]):
                price = slow.price(graph, labels)
                due = labels in forests and price == least
                self.assertIs(forest_holds(graph, ("forest", price), labels), due)


class TestWarrants(WardCase):
    looker = forest_holds

    def test_right_ones(self):
        self.check_yes(GRAPH, CLAIM, LABELS, ("w", "y", "v"))

    def test_labels_of_which_a_circle_can_be_made(self):
        self.check_no(GRAPH, ("forest", 1), ("x", "w", "y", "v"))
        self.check_no(GRAPH, ("forest", 0), ("x", "w", "v"))
        self.check_no(GRAPH, ("forest", -9), ("x", "y", "v", "l"))
        self.check_no(GRAPH, ("forest", 5), ("x", "y", "v", "m"))
        graph = Graph(("a", "b", "c"), (("l", "a", "a", 0, 0), ("x", "b", "c", 0, 0)))
        self.check_yes(graph, ("forest", 0), ("x",))
        self.check_no(graph, ("forest", 0), ("l", "x"), ("l",))

    def test_forests_that_do_not_span(self):
        self.check_no(GRAPH, ("forest", -1), ("x", "v"))
        self.check_no(GRAPH, ("forest", 2), ("x", "y"))
        self.check_no(GRAPH, ("forest", 0), ())
        self.check_no(Graph(("a", "b"), (("x", "a", "b", 0, 0),)), ("forest", 0), ())

    def test_forests_of_another_price(self):
        for price in (-9, -1, 1, 2, 10 ** 12 - 1):
            self.check_no(GRAPH, ("forest", price), LABELS)

    def test_forests_that_are_not_of_least_price(self):
        self.check_no(GRAPH, ("forest", 1), ("x", "z", "v"), ("z", "y", "v"))
        self.check_no(GRAPH.with_price("w", 0), CLAIM, LABELS)
        self.check_yes(GRAPH.with_price("z", 1), CLAIM, ("x", "z", "v"))
        graph = Graph(("a", "b", "c"), (("x", "a", "b", 0, 0), ("y", "b", "c", 5, 0), ("z", "a", "c", 4, 0)))
        self.check_no(graph, ("forest", 5), ("x", "y"))
        self.check_yes(graph.with_price("z", 5), ("forest", 5), ("x", "y"))

    def test_labels_in_another_order(self):
        wrong = [
            ("y", "x", "v"), ("x", "v", "y"), ("x", "y", "v", "v"), ("x", "x", "y", "v"), ("x", "y", "v", "q"),
            ["x", "y", "v"], "xyv", None, ("x", "y", None), (("x", "y", "v"),), ("x", "y", ["v"]), (LABELS, ()),
        ]
        self.check_no(GRAPH, CLAIM, *wrong)

    def test_claims_of_another_form(self):
        wrong = ODD_VALUES + [("forest",), ("forest", 0, 0), ["forest", 0], (0, "forest"), ("tree", 0), ("Forest", 0)]
        wrong += [("forest", price) for price in (None, False, True, "0", (), (0,), [0])] + [(["forest"], 0), (None, 0)]
        for claim in wrong:
            self.check_no(GRAPH, claim, LABELS)
        one = GRAPH.with_price("x", 2).with_price("w", 2)
        self.check_yes(one, ("forest", 1), LABELS)
        self.check_no(one, ("forest", True), LABELS)

    def test_any_values(self):
        self.check_looker(GRAPH, CLAIM, LABELS)
        self.check_no(GRAPH, CLAIM, *ODD_VALUES)


if __name__ == "__main__":
    unittest.main()
