"""Points 28 and 29: two sides, odd circles and covers, their claims and warrants."""

import random
import unittest

import slow
from bridgeward.errors import Undefined
from bridgeward.graphs import Graph
from bridgeward.sides import (
    cover_claim, cover_holds, cover_size, cover_warrant, first_sides, sides_claim, sides_holds, sides_warrant,
)
from samples import ODD_VALUES, WardCase, full_graphs, random_graph

SIDES = ("sides",)
ODD = ("odd circle",)
# A circle a b c d with an edge twice and e behind c; p and q by themselves; o without edges.
EVEN = Graph(
    ("b", "a", "c", "d", "e", "p", "q", "o"),
    (
        ("x", "a", "b", 0, 0), ("y", "c", "b", 0, 0), ("z", "c", "d", 0, 0), ("w", "d", "a", 0, 0),
        ("v", "a", "b", 0, 0), ("u", "e", "c", 0, 0), ("t", "q", "p", 0, 0),
    ),
)
COVER = ("cover", 3)
NODES = ("a", "c", "p")
LABELS = ("x", "z", "t")
SIDE = ("b", "d", "e", "p")
# A triangle a b c, d between b and c too, a loop at e, which is joined with d.
UNEVEN = Graph(
    ("a", "b", "c", "d", "e"),
    (
        ("x", "a", "b", 0, 0), ("y", "c", "b", 0, 0), ("z", "a", "c", 0, 0), ("w", "b", "d", 0, 0),
        ("v", "d", "c", 0, 0), ("u", "d", "e", 0, 0), ("l", "e", "e", 0, 0),
    ),
)


def two_sided(seed, many):
    """A random graph of 8 nodes whose edges join the first four and the last four."""
    dice = random.Random(seed)
    nodes = tuple("abcdefgh")
    edges = [(label, dice.choice(nodes[:4]), dice.choice(nodes[4:]), 99, 20) for label in "opqrstuvwxyzab"[:many]]
    edges = [edge if dice.random() < 0.5 else edge[:1] + edge[2:0:-1] + edge[3:] for edge in edges]
    return Graph(tuple(dice.sample(nodes, 8)), edges)


class TestAnswers(WardCase):
    looker = sides_holds

    def check_graph(self, graph):
        sides = list(slow.two_sides(graph))
        self.assertEqual(sides_claim(graph), SIDES if sides else ODD)
        warrant = sides_warrant(graph)
        self.assertEqual(sides_warrant(graph), warrant)
        self.check_yes(graph, SIDES if sides else ODD, warrant)
        self.check_no(graph, ODD if sides else SIDES, warrant)
        size = min(map(len, slow.covers(graph)))
        self.assertEqual(cover_size(graph), size)
        if sides:
            firsts = [row[0] for row in slow.parts(graph)]
            self.assertEqual([first_sides(graph)], [side for side in sides if set(firsts) <= set(side)])
            self.check_cover(graph, size)
        else:
            for call in (first_sides, cover_claim, cover_warrant):
                self.check_error(Undefined("sides"), call, graph)

    def check_cover(self, graph, size):
        self.assertEqual(cover_claim(graph), ("cover", size))
        warrant = cover_warrant(graph)
        self.assertEqual(cover_warrant(graph), warrant)
        for k in range(-1, size + 3):
            self.assertIs(cover_holds(graph, ("cover", k), warrant), k == size)

    def test_small_graphs_against_a_slow_count(self):
        for seed in range(500):
            self.check_graph(random_graph(seed, most_nodes=6, most_edges=7))

    def test_graphs_with_two_sides_against_a_slow_count(self):
        for seed in range(200):
            self.check_graph(two_sided(seed, seed % 15))

    def test_full_graphs(self):
        for graph in full_graphs():
            self.check_graph(graph)

    def test_odd_circles_of_each_length(self):
        ring = "abcdefg"
        for many in (1, 3, 5, 7):
            nodes = ring[:many]
            edges = [(label, *ends, 0, 0) for label, ends in zip("pqrstuv", zip(nodes, nodes[1:] + nodes[:1]))]
            graph = Graph(tuple(nodes), edges)
            self.check_graph(graph)
            self.assertEqual(len(sides_warrant(graph)[1]), many)
            self.check_graph(Graph(("h",) + tuple(nodes), edges + [("w", "h", nodes[-1], 0, 0)]))

    def test_samples(self):
        self.check_graph(EVEN)
        self.check_graph(UNEVEN)
        self.assertEqual((first_sides(EVEN), cover_size(EVEN), cover_size(UNEVEN)), (("b", "d", "e", "p", "o"), 3, 3))
        self.assertEqual((sides_claim(EVEN), sides_claim(UNEVEN)), (SIDES, ODD))

    def test_graphs_without_edges(self):
        for nodes in ((), ("a",), ("b", "a")):
            graph = Graph(nodes, ())
            self.check_graph(graph)
            self.assertEqual((first_sides(graph), cover_size(graph), cover_warrant(graph)), (nodes, 0, ((), (), nodes)))

    def test_loops(self):
        graph = Graph(("a", "b"), (("l", "b", "b", 0, 0),))
        self.check_graph(graph)
        self.assertEqual((sides_claim(graph), sides_warrant(graph), cover_size(graph)), (ODD, ("b", ("l",)), 1))


class TestSides(WardCase):
    looker = sides_holds

    def test_all_sets(self):
        for graph in [EVEN, UNEVEN] + [random_graph(seed, most_nodes=5, most_edges=5) for seed in range(200)]:
            due = set(slow.two_sides(graph))
            for side in slow.subsets(graph.nodes):
                self.assertIs(sides_holds(graph, SIDES, side), side in due)

    def test_right_ones(self):
        self.check_yes(EVEN, SIDES, SIDE, ("b", "d", "e", "q"), ("a", "c", "q"), ("a", "c", "p", "o"), SIDE + ("o",))

    def test_edges_with_both_ends_on_one_side(self):
        self.check_no(EVEN, SIDES, ("a", "c"), ("a", "p"), ("c", "p"), ("a", "c", "d", "p"), (), EVEN.nodes)

    def test_sides_that_are_no_rows(self):
        wrong = [("d", "b", "e", "p"), SIDE + ("p",), SIDE + ("z",), list(SIDE), "bdep", None, SIDE + (None,), 0]
        self.check_no(EVEN, SIDES, *wrong, ("b", "d", "e", ["p"]), (SIDE,), (SIDE, ()))
        self.check_no(Graph((), ()), SIDES, [], None, "", False, 0, ((),))


class TestOddCircles(WardCase):
    looker = sides_holds

    def test_all_small_circles(self):
        for graph in [UNEVEN] + [random_graph(seed, most_nodes=4, most_edges=5) for seed in range(60)]:
            for name in graph.nodes:
                for end, labels in slow.walks_edgewise(graph, name):
                    due = end == name and len(labels) % 2 == 1
                    self.assertIs(sides_holds(graph, ODD, (name, labels)), due)

    def test_right_ones(self):
        self.check_yes(
            UNEVEN, ODD, ("a", ("x", "y", "z")), ("b", ("y", "z", "x")), ("c", ("y", "x", "z")), ("d", ("v", "y", "w")),
            ("e", ("l",)),
        )

    def test_circles_that_pass_a_node_twice(self):
        graph = UNEVEN.with_edge(("s", "a", "d", 0, 0)).with_edge(("r", "d", "a", 0, 0))
        self.check_yes(graph, ODD, ("a", ("s", "r", "x", "y", "z")), ("d", ("r", "x", "y", "z", "s")))

    def test_an_even_number_of_edges(self):
        self.check_no(UNEVEN, ODD, ("a", ("x", "w", "v", "z")), ("b", ("w", "v", "z", "x")), ("a", ()), ("e", ()))
        self.check_no(EVEN, ODD, ("a", ("x", "v")), ("a", ("x", "y", "z", "w")))

    def test_an_edge_twice(self):
        self.check_no(UNEVEN, ODD, ("e", ("l", "l", "l")), ("d", ("u", "l", "u")), ("a", ("x", "y", "z") * 3))
        self.check_no(EVEN, ODD, ("a", ("x", "x", "v")), ("a", ("x", "v", "x")))

    def test_walks_that_are_not_closed(self):
        self.check_no(UNEVEN, ODD, ("a", ("x",)), ("a", ("x", "w", "u")), ("a", ("x", "y", "v")), ("d", ("u",)))

    def test_circles_from_another_node(self):
        self.check_no(UNEVEN, ODD, ("b", ("x", "y", "z")), ("d", ("l",)), ("z", ("x", "y", "z")), ("x", ("l",)))

    def test_what_is_no_walk(self):
        self.check_no(UNEVEN, ODD, ("a", ("x", "z", "y")), ("a", ("x", "y", "q")), ("a", ("x", "v", "z")))
        self.check_no(UNEVEN, ODD, ("e", ["l"]), ("e", "l"), ("e", None), ("e", (None,)), ("e", (["l"],)), ("e", 1))

    def test_pairs_of_another_form(self):
        self.check_no(UNEVEN, ODD, ["e", ("l",)], ("e",), ("e", ("l",), ()), (("l",), "e"), ("l",), "el", (), None)
        self.check_no(UNEVEN, ODD, *[(name, ("l",)) for name in ODD_VALUES])

    def test_claims_of_another_form(self):
        for graph, claim, warrant in ((EVEN, SIDES, SIDE), (UNEVEN, ODD, ("e", ("l",)))):
            self.check_yes(graph, claim, warrant)
            wrong = ODD_VALUES + [claim + (0,), claim * 2, list(claim), claim[0], (claim,), (claim[0].upper(),)]
            for other in wrong + [("cover",), ("cover", 3), ("tour",), ("even circle",), SIDES if claim == ODD else ODD]:
                self.check_no(graph, other, warrant)
            self.check_no(graph, claim, *ODD_VALUES)

    def test_any_values(self):
        self.check_looker(EVEN, SIDES, SIDE)
        self.check_looker(UNEVEN, ODD, ("a", ("x", "y", "z")))


class TestCovers(WardCase):
    looker = cover_holds

    def test_right_ones(self):
        self.check_yes(
            EVEN, COVER, (NODES, LABELS, SIDE), (("a", "c", "q"), LABELS, SIDE), (NODES, ("z", "v", "t"), SIDE),
            (NODES, ("w", "u", "t"), ("a", "c", "q", "o")), (NODES, ("y", "w", "t"), SIDE),
        )

    def test_all_small_warrants(self):
        for seed in range(150):
            graph = random_graph(seed, most_nodes=4, most_edges=4)
            sides, covers, matchings = list(slow.two_sides(graph)), list(slow.covers(graph)), slow.matchings(graph)
            side = sides[0] if sides else ()
            for k in range(3):
                for nodes in slow.subsets(graph.nodes):
                    for labels in slow.subsets([edge[0] for edge in graph.edges]):
                        due = sides != [] and nodes in covers and labels in matchings and len(nodes) == len(labels) == k
                        self.assertIs(cover_holds(graph, ("cover", k), (nodes, labels, side)), due)

    def test_edges_that_are_not_covered(self):
        for nodes in (("a", "c", "e"), ("b", "a", "p"), ("a", "d", "p"), ("c", "d", "p"), ("a", "c", "o")):
            self.check_no(EVEN, COVER, (nodes, LABELS, SIDE))

    def test_covers_of_another_number(self):
        self.check_no(EVEN, COVER, (("b", "a", "c", "p"), LABELS, SIDE), (("a", "c"), LABELS, SIDE))
        self.check_no(EVEN, ("cover", 4), (("b", "a", "c", "p"), LABELS, SIDE), (NODES, LABELS, SIDE))
        self.check_no(EVEN, ("cover", 2), (NODES, ("x", "t"), SIDE), (("a", "c"), ("x", "z"), SIDE))

    def test_matchings_of_another_number(self):
        self.check_no(EVEN, COVER, (NODES, ("x", "z"), SIDE), (NODES, (), SIDE), (NODES, ("x", "t"), SIDE))

    def test_edges_with_a_common_end(self):
        self.check_no(EVEN, COVER, *[(NODES, labels, SIDE) for labels in (
            ("x", "y", "t"), ("z", "u", "t"), ("x", "v", "t"), ("z", "w", "t"), ("x", "z", "w"), ("x", "z", "v"),
        )])

    def test_sides_that_are_none(self):
        for side in ((), ("b", "d"), ("b", "d", "e"), ("a", "p"), EVEN.nodes, ("d", "b", "e", "p"), None, list(SIDE)):
            self.check_no(EVEN, COVER, (NODES, LABELS, side))

    def test_graphs_with_odd_circles(self):
        graph = Graph(("a", "b", "c"), UNEVEN.edges[:2])
        warrant = (("b",), ("x",), ("b",))
        self.check_yes(graph, ("cover", 1), warrant)
        odd = graph.with_edge(("l", "b", "b", 0, 0))
        self.assertEqual(cover_size(odd), 1)
        self.check_no(odd, ("cover", 1), warrant, (("b",), ("x",), ("a", "c")), (("b",), ("x",), ("b", ("l",))))

    def test_rows_in_another_order(self):
        wrong = [("c", "a", "p"), NODES + ("p",), ("a", "c", "z"), list(NODES), "acp", None, ("a", "c", None), ("a", "c", ["p"])]
        self.check_no(EVEN, COVER, *[(nodes, LABELS, SIDE) for nodes in wrong])
        wrong = [("z", "x", "t"), LABELS + ("t",), ("x", "z", "k"), list(LABELS), "xzt", None, ("x", "z", None)]
        self.check_no(EVEN, COVER, *[(NODES, labels, SIDE) for labels in wrong])

    def test_triples_of_another_form(self):
        good = (NODES, LABELS, SIDE)
        self.check_no(EVEN, COVER, good[:2], good + ((),), list(good), good[::-1], NODES, (), None, (LABELS, NODES, SIDE))

    def test_claims_of_another_form(self):
        wrong = ODD_VALUES + [("cover",), ("cover", 3, 0), ["cover", 3], (3, "cover"), ("matching", 3), SIDES]
        wrong += [("cover", k) for k in (None, True, "3", (3,), [3], -3)]
        wrong += [(word, 3) for word in ("Cover", "sides", "", None, ["cover"])]
        for claim in wrong:
            self.check_no(EVEN, claim, (NODES, LABELS, SIDE))
        one = Graph(("a", "b"), (("x", "a", "b", 0, 0),))
        self.check_yes(one, ("cover", 1), (("a",), ("x",), ("b",)))
        self.check_no(one, ("cover", True), (("a",), ("x",), ("b",)))
        for zero in (False, None, "", ()):
            self.check_no(Graph(("a",), ()), ("cover", zero), ((), (), ()))

    def test_any_values(self):
        self.check_looker(EVEN, COVER, (NODES, LABELS, SIDE))
        self.check_no(EVEN, COVER, *ODD_VALUES)


if __name__ == "__main__":
    unittest.main()
