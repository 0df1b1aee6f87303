"""Point 25: cheapest trees from a node, the claims and their warrants."""

import itertools
import unittest

import slow
from bridgeward.errors import Undefined, UnknownNode
from bridgeward.graphs import Graph
from bridgeward.trees import tree_claim, tree_holds, tree_price, tree_warrant
from samples import NO_NAMES, ODD_VALUES, WardCase, full_graphs, random_graph

# A round of a and b that is dear to enter, c behind it, loops, an edge back to r.
GRAPH = Graph(
    ("c", "a", "r", "b"),
    (
        ("x", "r", "a", 10, 0), ("y", "a", "b", 1, 0), ("z", "b", "a", 1, 0), ("w", "b", "c", 2, 0),
        ("v", "r", "c", 9, 0), ("l", "a", "a", -50, 0), ("k", "c", "r", -9, 0),
    ),
)
TREE = ("tree", "r", 13)
LABELS = ("x", "y", "w")
ROWS = ((("a",), 1), (("b",), 1), (("c",), 2), (("a", "b"), 9))
# From s only t can be reached.
CUT = Graph(("s", "t", "u", "v"), (("x", "s", "t", 3, 0), ("y", "u", "t", 0, 0), ("z", "u", "v", 0, 0)))
NO_TREE = ("no tree", "s")


def rows_with(*pairs):
    return (LABELS, pairs)


class TestAnswers(WardCase):
    looker = tree_holds

    def check_graph(self, graph):
        for r in graph.nodes:
            prices = [slow.price(graph, labels) for labels in slow.trees(graph, r)]
            claim = ("tree", r, min(prices)) if prices else ("no tree", r)
            self.assertEqual(tree_claim(graph, r), claim)
            if prices:
                self.assertEqual(tree_price(graph, r), min(prices))
            else:
                self.check_error(Undefined("tree"), tree_price, graph, r)
            self.check_warrant(graph, claim)

    def check_warrant(self, graph, claim):
        r = claim[1]
        warrant = tree_warrant(graph, r)
        self.assertEqual(tree_warrant(graph, r), warrant)
        self.check_small_integers(warrant)
        self.check_yes(graph, claim, warrant)
        others = [("no tree", r)] if claim[0] == "tree" else [("tree", r, price) for price in (-1, 0, 1)]
        others += [(word, r, claim[2] + more) for word in claim[:1] for more in (-1, 1) if word == "tree"]
        for other in others:
            self.check_no(graph, other, warrant)

    def test_small_graphs_against_all_trees(self):
        for seed in range(500):
            self.check_graph(random_graph(seed, most_nodes=5, most_edges=10))

    def test_many_edges_of_few_prices(self):
        for seed in range(300):
            self.check_graph(random_graph(seed, most_nodes=5, most_edges=12, prices=(-1, 1)))
            self.check_graph(random_graph(seed, most_nodes=4, most_edges=12, prices=(5, 5)))

    def test_full_graphs(self):
        for graph in full_graphs():
            self.check_graph(graph)

    def test_rounds_within_rounds(self):
        nodes = "abcdefgh"
        pairs = "ab ba bc ca cd da de ea ef fa fg ga ha".split()
        for step in (1, 7, 99):
            prices = [-99 + step * (at // 2 % 3) for at in range(len(pairs))]
            edges = [(label, *pair, price, 0) for label, pair, price in zip("opqrstuvwxyzk", pairs, prices)]
            self.check_graph(Graph(tuple(nodes), edges))

    def test_samples(self):
        self.check_graph(GRAPH)
        self.check_graph(CUT)
        self.assertEqual((tree_price(GRAPH, "r"), tree_claim(CUT, "s")), (13, NO_TREE))

    def test_one_node(self):
        for graph in (Graph(("a",), ()), Graph(("a",), (("l", "a", "a", -9, 0),))):
            self.check_graph(graph)
            self.assertEqual((tree_price(graph, "a"), tree_claim(graph, "a")), (0, ("tree", "a", 0)))
            self.check_yes(graph, ("tree", "a", 0), ((), ()))

    def test_prices_below_0(self):
        graph = Graph(("a", "b", "c"), (("x", "a", "b", -5, 0), ("y", "b", "c", -7, 0), ("z", "c", "b", -9, 0)))
        self.check_graph(graph)
        self.assertEqual(tree_price(graph, "a"), -12)

    def test_errors(self):
        for call in (tree_price, tree_claim, tree_warrant):
            for name in NO_NAMES + ["z", "x"]:
                self.check_error(UnknownNode(name), call, GRAPH, name)
                self.check_error(UnknownNode(name), call, CUT, name)
        for name in "stuv":
            if name != "u":
                self.check_error(Undefined("tree"), tree_price, CUT, name)


class TestTrees(WardCase):
    looker = tree_holds

    def test_right_ones(self):
        self.check_yes(
            GRAPH, TREE, (LABELS, ROWS), (LABELS, ROWS[::-1]),
            rows_with((("a",), -3), (("b",), 1), (("c",), 2), (("a", "b"), 13)),
            rows_with((("a",), 1), (("b",), 1), (("c",), 2), (("a", "b"), 2), (("c", "a", "b"), 7)),
        )

    def test_all_small_weights(self):
        for seed in range(60):
            graph = random_graph(seed, most_nodes=3, most_edges=5, prices=(-1, 2))
            r = graph.nodes[0]
            sets = [some for some in slow.subsets(graph.nodes[1:]) if some]
            for labels in itertools.islice(slow.trees(graph, r), 3):
                price = slow.price(graph, labels)
                for weights in itertools.product([None, -2, -1, 0, 1, 2, 3], repeat=len(sets)):
                    rows = tuple((some, y) for some, y in zip(sets, weights) if y is not None)
                    due = self.bound(graph, r, rows) and sum(y for _, y in rows) == price
                    self.assertIs(tree_holds(graph, ("tree", r, price), (labels, rows)), due)

    def bound(self, graph, r, rows):
        if any(len(some) > 1 and y <= 0 for some, y in rows):
            return False
        for _, tail, head, price, _ in graph.edges:
            if head != r and head != tail and sum(y for some, y in rows if head in some and tail not in some) > price:
                return False
        return True

    def test_all_rows_of_labels(self):
        for seed in range(60):
            graph = random_graph(seed, most_nodes=4, most_edges=6)
            for r in graph.nodes:
                claim = tree_claim(graph, r)
                trees = list(slow.trees(graph, r))
                for labels in slow.subsets([edge[0] for edge in graph.edges]):
                    due = labels in trees and slow.price(graph, labels) == claim[2]
                    rows = tree_warrant(graph, r)[1:2]
                    self.assertIs(tree_holds(graph, claim, (labels, *rows)), due)

    def test_weights_of_greater_sets_not_above_0(self):
        self.check_no(GRAPH, TREE, rows_with(*ROWS, (("c", "a", "b"), 0)), rows_with(*ROWS, (("c", "a"), 0)))
        self.check_no(
            GRAPH.with_price("v", 2), TREE,
            rows_with((("a",), 1), (("b",), 1), (("c",), 3), (("a", "b"), 9), (("c", "b"), -1)),
        )
        graph = Graph(("r", "a", "b"), (("x", "r", "a", 1, 0), ("y", "r", "b", 1, 0)))
        claim, labels = ("tree", "r", 2), ("x", "y")
        self.check_yes(graph, claim, (labels, ((("a",), 1), (("b",), 1))))
        self.check_no(graph, claim, (labels, ((("a",), 2), (("b",), 1), (("a", "b"), -1))))
        self.check_no(graph, ("tree", "r", 3), (labels, ((("a",), 2), (("b",), 2), (("a", "b"), -1))))

    def test_weights_of_single_nodes_may_be_any(self):
        graph = Graph(("r", "a", "b"), (("x", "r", "a", 0, 0), ("y", "r", "b", -1, 0)))
        self.check_yes(graph, ("tree", "r", -1), (("x", "y"), ((("b",), -1),)), (("x", "y"), ((("a",), 0), (("b",), -1))))

    def test_a_set_twice(self):
        self.check_no(
            GRAPH, TREE, rows_with(*ROWS[:3], (("a", "b"), 5), (("a", "b"), 4)),
            rows_with((("a",), 0), *ROWS[1:], (("a",), 1)), rows_with(*ROWS, (("c",), 0)),
        )

    def test_a_set_with_r(self):
        self.check_no(GRAPH, TREE, rows_with(*ROWS, (("r",), 0)), rows_with(*ROWS[:3], (("a", "r", "b"), 9)))
        graph = Graph(("r", "a"), (("x", "r", "a", 2, 0),))
        self.check_no(graph, ("tree", "r", 2), (("x",), ((("r",), 2),)), (("x",), ((("a",), 1), (("r", "a"), 1))))
        self.check_no(graph, ("tree", "r", 2), (("x",), ((("a",), 2), (("r",), 0))))

    def test_an_empty_set(self):
        self.check_no(GRAPH, TREE, rows_with(*ROWS, ((), 0)), rows_with(*ROWS[:3], ((), 9)))

    def test_sets_that_are_no_rows(self):
        wrong = [("b", "a"), ("a", "a", "b"), ["a", "b"], "ab", None, ("a", None), ("a", ["b"]), ("a", "q"), ("a", "b", "b")]
        self.check_no(GRAPH, TREE, *[rows_with(*ROWS[:3], (nodes, 9)) for nodes in wrong])

    def test_edges_that_are_entered_for_more_than_their_price(self):
        self.check_no(GRAPH, TREE, rows_with(*ROWS[:2], (("c",), 3), (("a", "b"), 8)))
        self.check_no(GRAPH, TREE, rows_with((("a",), 2), (("b",), 1), (("c",), 2), (("a", "b"), 8)))
        self.check_no(GRAPH, TREE, rows_with((("a",), 1), (("b",), 1), (("c",), 2), (("a", "b"), 1), (("c", "a", "b"), 8)))
        self.check_no(GRAPH.with_price("v", 1), TREE, (LABELS, ROWS))
        self.check_yes(GRAPH.with_price("v", 2), TREE, (LABELS, ROWS))

    def test_loops_and_edges_to_r_are_free(self):
        for price in (-99, 99):
            self.check_yes(GRAPH.with_price("l", price), TREE, (LABELS, ROWS))
            self.check_yes(GRAPH.with_price("k", price), TREE, (LABELS, ROWS))

    def test_weights_that_do_not_add_up_to_the_price(self):
        self.check_no(GRAPH, TREE, rows_with(*ROWS[:3]), rows_with(), rows_with(*ROWS[:3], (("a", "b"), 8)))
        self.check_no(GRAPH, TREE, rows_with(*ROWS, (("c", "a", "b"), 1)), rows_with(*ROWS[1:]))

    def test_trees_that_are_not_cheapest(self):
        for labels, price in ((("x", "y", "v"), 20),):
            for more in range(-9, 10):
                self.check_no(GRAPH, ("tree", "r", price), (labels, (*ROWS[:3], (("a", "b"), 9 + more))))

    def test_labels_that_are_no_tree(self):
        wrong = [
            ("y", "z", "w"), ("x", "y"), ("x", "w"), (), ("x", "z", "w"), ("x", "y", "w", "v"), ("x", "y", "w", "l"),
            ("x", "y", "w", "k"), ("x", "y", "l"), ("y", "w", "l"), ("x", "y", "k"), ("y", "z", "v"),
        ]
        for labels in wrong:
            price = slow.price(GRAPH, labels)
            rows = (*ROWS[:3], (("a", "b"), price - 4))
            self.check_no(GRAPH, ("tree", "r", price), (labels, ROWS), (labels, rows))
            self.check_no(GRAPH, TREE, (labels, ROWS))

    def test_labels_that_do_not_reach_all(self):
        graph = Graph(("r", "a", "b"), (("x", "r", "a", 0, 0), ("y", "a", "b", 0, 0), ("z", "b", "a", 0, 0)))
        self.check_yes(graph, ("tree", "r", 0), (("x", "y"), ()))
        self.check_no(graph, ("tree", "r", 0), (("y", "z"), ()), (("x", "z"), ()))

    def test_trees_from_another_node(self):
        graph = Graph(("r", "a"), (("x", "r", "a", 0, 0), ("y", "a", "r", 0, 0)))
        self.check_yes(graph, ("tree", "r", 0), (("x",), ()))
        self.check_yes(graph, ("tree", "a", 0), (("y",), ()))
        self.check_no(graph, ("tree", "r", 0), (("y",), ()), (("x", "y"), ()))

    def test_labels_in_another_order(self):
        wrong = [("y", "x", "w"), ("x", "y", "w", "w"), ["x", "y", "w"], "xyw", None, ("x", "y", None), ("x", "y", ["w"])]
        self.check_no(GRAPH, TREE, *[(labels, ROWS) for labels in wrong])

    def test_rows_of_another_form(self):
        self.check_no(GRAPH, TREE, (LABELS, list(ROWS)), (LABELS, None), (LABELS, ROWS[0]), (LABELS, "ab"))
        for pair in ([("a", "b"), 9], (("a", "b"),), (("a", "b"), 9, 0), (9, ("a", "b")), None, ("a", "b"), ()):
            self.check_no(GRAPH, TREE, rows_with(*ROWS[:3], pair))
        for y in (None, "9", (9,), [9], ()):
            self.check_no(GRAPH, TREE, rows_with(*ROWS[:3], (("a", "b"), y)))
        self.check_no(GRAPH, TREE, rows_with((("a",), True), *ROWS[1:]), rows_with((("a",), 1), *ROWS[1:], (("c",), 0)))
        graph = Graph(("r", "a"), (("x", "r", "a", 0, 0),))
        self.check_no(graph, ("tree", "r", 0), (("x",), ((("a",), False),)))

    def test_pairs_of_another_form(self):
        self.check_no(GRAPH, TREE, (LABELS,), (LABELS, ROWS, ()), [LABELS, ROWS], (ROWS, LABELS), LABELS, (), None)


class TestNoTree(WardCase):
    looker = tree_holds

    def test_right_ones(self):
        self.check_yes(CUT, NO_TREE, ("u",), ("u", "v"))
        self.check_yes(CUT, ("no tree", "v"), ("s",), ("u",), ("s", "u"), ("s", "t", "u"))

    def test_all_sets(self):
        for seed in range(200):
            graph = random_graph(seed, most_nodes=5, most_edges=7)
            for r, some in itertools.product(graph.nodes, slow.subsets(graph.nodes)):
                entered = any(edge[2] in some and edge[1] not in some for edge in graph.edges)
                due = bool(some) and r not in some and not entered
                self.assertIs(tree_holds(graph, ("no tree", r), some), due)

    def test_sets_that_are_entered(self):
        self.check_no(CUT, NO_TREE, ("t",), ("v",), ("t", "v"), ("t", "u"), ("t", "u", "v"))

    def test_sets_with_r(self):
        self.check_no(CUT, NO_TREE, ("s",), ("s", "u"), ("s", "u", "v"), ("s", "t", "u", "v"))

    def test_an_empty_set(self):
        self.check_no(CUT, NO_TREE, ())
        self.check_no(Graph(("a",), ()), ("no tree", "a"), (), ("a",))

    def test_sets_that_are_no_rows(self):
        wrong = [("v", "u"), ("u", "u"), ["u"], "u", None, ("u", None), ("u", "q"), ("u", ["v"]), (("u",),), ("q",)]
        self.check_no(CUT, NO_TREE, *wrong)

    def test_edges_out_of_the_set_do_not_matter(self):
        graph = Graph(("s", "u", "v"), (("x", "u", "s", 0, 0), ("y", "u", "v", 0, 0), ("z", "v", "u", 0, 0)))
        self.check_yes(graph, NO_TREE, ("u", "v"))
        self.check_no(graph, NO_TREE, ("u",), ("v",))


class TestForms(WardCase):
    looker = tree_holds

    def test_claims_of_another_form(self):
        wrong = ODD_VALUES + [TREE[:2], TREE[:1], TREE + (0,), list(TREE), TREE[::-1], ("tree", 13, "r"), ("tree", 13)]
        wrong += [("tree", name, 13) for name in NO_NAMES + ["z", "a"]]
        wrong += [("tree", "r", price) for price in (None, True, "13", (13,), [13], 12, 14)]
        wrong += [(word, "r", 13) for word in ("forest", "Tree", "no tree", "", None, ["tree"])]
        for claim in wrong:
            self.check_no(GRAPH, claim, (LABELS, ROWS))
        wrong = ODD_VALUES + [NO_TREE[:1], NO_TREE + (0,), NO_TREE + ("s",), list(NO_TREE), NO_TREE[::-1]]
        wrong += [("no tree", name) for name in NO_NAMES + ["z", "u"]]
        wrong += [(word, "s") for word in ("tree", "no Tree", "no", "", None, ["no tree"])]
        for claim in wrong:
            self.check_no(CUT, claim, ("u",), ((), ()))
        one = Graph(("a",), ())
        for price in (False, None, "", ()):
            self.check_no(one, ("tree", "a", price), ((), ()))

    def test_any_values(self):
        self.check_looker(GRAPH, TREE, (LABELS, ROWS))
        self.check_looker(CUT, NO_TREE, ("u", "v"))
        self.check_no(GRAPH, TREE, *ODD_VALUES)
        self.check_no(CUT, NO_TREE, *ODD_VALUES)


if __name__ == "__main__":
    unittest.main()
