"""Points 34 and 35: drawings, faces, plane graphs and subdivided K5 and K33."""

import itertools
import random
import unittest

import slow
from bridgeward.errors import Undefined
from bridgeward.graphs import Graph
from bridgeward.plane import crossing_edges, faces, plane_claim, plane_holds, plane_warrant
from samples import ODD_VALUES, WardCase, full_graphs, random_graph

PLANE = ("plane",)
NOT_PLANE = ("not plane",)
LABELS = [first + second for first in ("", "q", "r") for second in "abcdefghijklmnopqrstuvwxyz"]


def joined(nodes, pairs):
    """A graph whose edges have these ends, called a, b, c and so on."""
    return Graph(tuple(nodes), [(label, *pair, 0, 0) for label, pair in zip(LABELS, pairs)])


FIVE = joined("abcde", itertools.combinations("abcde", 2))
SIX = joined("abcdef", itertools.product("ace", "bdf"))
# All walks of the five, and those of a, c, e to b, d, f, are single edges.
FIVE_WARRANT = (tuple("abcde"), tuple((label,) for label in "abcdefghij"))
SIX_WARRANT = (tuple("acebdf"), tuple((label,) for label in "abcdefghi"))
# Two triangles a b c and b c d, with a loop at d and e behind it; f and g beside; o without edges.
SAMPLE = Graph(
    ("a", "b", "c", "d", "e", "f", "g", "o"),
    (
        ("x", "a", "b", 0, 0), ("y", "c", "b", 0, 0), ("z", "a", "c", 0, 0), ("w", "b", "d", 0, 0), ("v", "d", "c", 0, 0),
        ("l", "d", "d", 0, 0), ("u", "d", "e", 0, 0), ("t", "f", "g", 0, 0), ("s", "g", "f", 0, 0),
    ),
)
DRAWING = (("x", "z"), ("x", "y", "w"), ("z", "v", "y"), ("w", "v", "l", "l", "u"), ("u",), ("t", "s"), ("t", "s"), ())


def with_inner_nodes(graph, many, seed):
    """The graph with so many nodes put into its edges."""
    dice = random.Random(seed)
    for name in "stuvwxyz"[:many]:
        label, tail, head, _, _ = dice.choice(graph.edges)
        first, second = dice.sample([tail, head], 2)
        graph = graph.without_edge(label).with_node(name).with_edge((label, first, name, 0, 0))
        graph = graph.with_edge(("n" + name, name, second, 0, 0) if seed % 2 else ("n" + name, second, name, 0, 0))
    return graph


def shuffled(graph, seed):
    """The same graph with its nodes and edges in another order and some edges turned round."""
    dice = random.Random(seed)
    nodes, edges = list(graph.nodes), list(graph.edges)
    dice.shuffle(nodes)
    dice.shuffle(edges)
    return Graph(nodes, [edge if dice.randrange(2) else (edge[0], edge[2], edge[1], *edge[3:]) for edge in edges])


class TestFaces(WardCase):
    def test_drawings_counted_by_hand(self):
        two = joined("ab", ["ab", "ba", "ab"])
        for graph, drawing, many in (
            (joined("ab", ["ab"]), (("a",), ("a",)), 1),
            (joined("a", ["aa"]), (("a", "a"),), 2),
            (joined("a", ["aa", "aa"]), (("a", "a", "b", "b"),), 3),
            (joined("a", ["aa", "aa"]), (("a", "b", "b", "a"),), 3),
            (joined("a", ["aa", "aa"]), (("a", "b", "a", "b"),), 1),
            (joined("abc", ["ab", "bc", "ca"]), (("a", "c"), ("b", "a"), ("b", "c")), 2),
            (joined("abc", ["ab", "bc"]), (("a",), ("b", "a"), ("b",)), 1),
            (joined("abcd", ["ab", "cd"]), (("a",), ("a",), ("b",), ("b",)), 2),
            (two, (("a", "b", "c"), ("c", "b", "a")), 3),
            (two, (("a", "b", "c"), ("a", "b", "c")), 1),
            (joined("ab", ["ab", "bb"]), (("a",), ("a", "b", "b")), 2),
            (joined("ab", ["ab", "bb"]), (("a",), ("b", "a", "b")), 2),
            (joined("abcd", ["ab", "ac", "ad"]), (("b", "c", "a"), ("a",), ("b",), ("c",)), 1),
            (SAMPLE, DRAWING, 6),
        ):
            self.assertEqual(faces(graph, drawing), many, drawing)
            self.assertEqual(slow.faces(graph, drawing), many, drawing)

    def test_graphs_without_edges(self):
        for nodes in ((), ("a",), ("b", "a")):
            graph = Graph(nodes, ())
            self.assertEqual(faces(graph, ((),) * len(nodes)), 0)
            self.assertEqual((plane_claim(graph), plane_warrant(graph)), (PLANE, ((),) * len(nodes)))
            self.assertEqual(crossing_edges(graph), ())

    def test_turns_begun_elsewhere(self):
        crossed = tuple(tuple(labels) for labels in ("abcd", "efga", "hbie", "jcfh", "dgij"))
        for graph, drawing in ((SAMPLE, DRAWING), (FIVE, crossed)):
            many = faces(graph, drawing)
            for at, labels in enumerate(drawing):
                for start in range(len(labels)):
                    if len(set(labels)) == len(labels):
                        turned = drawing[:at] + (labels[start:] + labels[:start],) + drawing[at + 1:]
                        self.assertEqual(faces(graph, turned), many)

    def test_all_drawings_of_small_graphs(self):
        for seed in range(100):
            graph = random_graph(seed, most_nodes=4, most_edges=5)
            for drawing in itertools.islice(slow.drawings(graph), 200):
                self.assertEqual(faces(graph, drawing), slow.faces(graph, drawing))

    def test_what_is_no_drawing(self):
        wrong = ODD_VALUES + [list(DRAWING), DRAWING[:7], DRAWING + ((),), DRAWING[::-1], (DRAWING,), dict.fromkeys(DRAWING)]
        wrong += [DRAWING[:at] + DRAWING[at + 1:] for at in range(8)]
        # A label too few or too many times, a loop once or thrice, at another node, an unknown one.
        wrong += [DRAWING[:3] + (turn,) + DRAWING[4:] for turn in (
            ("w", "v", "l", "u"), ("w", "v", "l", "l", "l", "u"), ("w", "l", "l", "u"), ("w", "w", "v", "l", "l", "u"),
            ("x", "v", "l", "l", "u"), ("w", "v", "l", "l", "q"), ["w", "v", "l", "l", "u"], "wvllu", None, (), 5,
            ("w", "v", "l", "l", None), ("w", "v", "l", "l", ("u",)), ("w", "v", "l", "l", ["u"]), ("w", "v", "l", "l", SAMPLE),
            ("w", "v", "l", "l", True), ("w", "v", "l", "l", 0), ("w", "v", "l", "w", "u"), ("wv", "l", "l", "u"),
        )]
        wrong += [DRAWING[:7] + (turn,) for turn in (("l",), [], None, "", ("o",), False)]
        for drawing in wrong:
            self.check_error(Undefined("drawing"), faces, SAMPLE, drawing)
        for drawing in ODD_VALUES + [[], ((),)]:
            if drawing != ():
                self.check_error(Undefined("drawing"), faces, Graph((), ()), drawing)


class TestPlane(WardCase):
    looker = plane_holds

    def check_graph(self, graph, is_plane=None):
        """All answers fit whether the graph is plane, which is else counted slowly."""
        due = slow.is_plane(slow.pairs_joined(graph)) if is_plane is None else is_plane
        claim, warrant = plane_claim(graph), plane_warrant(graph)
        self.assertEqual((plane_claim(graph), plane_warrant(graph)), (claim, warrant))
        self.assertEqual(claim, PLANE if due else NOT_PLANE)
        self.check_yes(graph, claim, warrant)
        self.check_no(graph, NOT_PLANE if due else PLANE, warrant)
        if due:
            self.assertTrue(slow.is_plane_drawing(graph, warrant))
            self.assertEqual(crossing_edges(graph), ())

    def check_crossing(self, graph):
        """The crossing edges are those without which alone the graph is plane."""
        pairs = [(edge[0], slow.pairs_joined(graph.without_edge(edge[0]))) for edge in graph.edges]
        due = tuple(label for label, left in pairs if slow.is_plane(left))
        self.assertEqual(crossing_edges(graph), () if slow.is_plane(slow.pairs_joined(graph)) else due)
        return crossing_edges(graph)

    def test_random_graphs(self):
        for seed in range(300):
            self.check_graph(random_graph(seed, most_nodes=8, most_edges=14))

    def test_graphs_of_many_pairs(self):
        found = []
        for seed in range(200):
            dice = random.Random(seed)
            nodes = "abcdefgh"[:dice.randint(5, 8)]
            pairs = list(itertools.combinations(nodes, 2))
            graph = shuffled(joined(nodes, dice.sample(pairs, min(len(pairs), dice.randint(9, 14)))), seed)
            self.check_graph(graph)
            self.check_crossing(graph)
            found.append(plane_claim(graph))
        self.assertGreater(min(found.count(PLANE), found.count(NOT_PLANE)), 40)

    def test_full_graphs(self):
        for graph in full_graphs():
            self.check_graph(graph)
            self.check_crossing(graph)

    def test_five_and_six(self):
        for graph, warrant in ((FIVE, FIVE_WARRANT), (SIX, SIX_WARRANT)):
            self.check_graph(graph, False)
            self.check_yes(graph, NOT_PLANE, warrant)
            labels = tuple(edge[0] for edge in graph.edges)
            self.assertEqual(self.check_crossing(graph), labels)
            for label in labels:
                self.check_graph(graph.without_edge(label), True)

    def test_nodes_put_into_edges(self):
        for seed in range(30):
            for graph, most in ((FIVE, 3), (SIX, 2)):
                other = shuffled(with_inner_nodes(graph, seed % (most + 1), seed), seed)
                self.check_graph(other, False)
                self.assertEqual(len(plane_warrant(other)[0]), len(graph))
                self.assertEqual(len(self.check_crossing(other)), len(other.edges))
                for label in [edge[0] for edge in other.edges]:
                    self.check_graph(other.without_edge(label), True)

    def test_more_beside_them(self):
        more = [("l", "a", "a", 0, 0), ("m", "a", "b", 0, 0), ("n", "p", "a", 0, 0), ("o", "p", "p", 0, 0)]
        for seed in range(20):
            for start in (FIVE, SIX):
                graph = start.with_node("p").with_node("q")
                for edge in more + [("t", "p", "q", 0, 0), ("s", "q", "p", 0, 0)]:
                    graph = graph.with_edge(edge)
                graph = shuffled(graph, seed)
                self.check_graph(graph, False)
                # The edge from a to b is there twice, so that none of both is crossing.
                crossing = tuple(edge[0] for edge in graph.edges if edge[0] in "bcdefghij")
                self.assertEqual(self.check_crossing(graph), crossing)
                self.check_graph(graph.without_edge("b"), True)

    def test_two_of_them(self):
        nodes = "abcdefghi"
        pairs = list(itertools.combinations("abcde", 2)) + list(itertools.combinations("efghi", 2))
        graph = joined(nodes, pairs)
        self.check_graph(graph, False)
        self.assertEqual(crossing_edges(graph), ())

    def test_all_edges_between_many_nodes(self):
        graph = joined("abcdefgh", itertools.combinations("abcdefgh", 2))
        self.check_graph(graph, False)
        self.assertEqual(crossing_edges(graph), ())

    def test_great_plane_graphs(self):
        cube = ["ab", "bc", "cd", "da", "ef", "fg", "gh", "he", "ae", "bf", "cg", "dh"]
        wheel = ["ab", "bc", "cd", "de", "ef", "fg", "ga"] + ["h" + name for name in "abcdefg"]
        ring = ["ab", "bc", "cd", "de", "ef", "fg", "gh", "ha", "ac", "ad", "ae", "af", "ag", "bh"]
        ball = ["ab", "bc", "ca", "ad", "bd", "cd", "de", "ae", "be", "ef", "af", "bf"]
        for seed in range(20):
            for pairs in (cube, wheel, ring, ball, cube[:8] * 2, wheel[:3] + ["aa", "bb", "de", "de", "ee"]):
                self.check_graph(shuffled(joined("abcdefgh", pairs), seed), True)

    def test_sample(self):
        self.check_graph(SAMPLE, True)
        self.check_yes(SAMPLE, PLANE, DRAWING)


class TestPlaneHolds(WardCase):
    looker = plane_holds

    def test_all_drawings_of_small_graphs(self):
        for seed in range(100):
            graph = random_graph(seed, most_nodes=4, most_edges=5)
            for drawing in itertools.islice(slow.drawings(graph), 200):
                self.assertIs(plane_holds(graph, PLANE, drawing), slow.is_plane_drawing(graph, drawing))

    def test_right_ones(self):
        turned = tuple(labels[1:] + labels[:1] for labels in DRAWING)
        mirrored = tuple(labels[::-1] for labels in DRAWING)
        inside = DRAWING[:3] + (("l", "l", "u", "w", "v"),) + DRAWING[4:]
        within = DRAWING[:3] + (("w", "v", "l", "u", "l"),) + DRAWING[4:]
        between = DRAWING[:3] + (("w", "l", "l", "v", "u"),) + DRAWING[4:]
        self.check_yes(SAMPLE, PLANE, DRAWING, mirrored, turned, inside, within, between)

    def test_too_few_faces(self):
        crossed = DRAWING[:1] + (("x", "w", "y"),) + DRAWING[2:]
        looped = DRAWING[:3] + (("w", "l", "v", "l", "u"),) + DRAWING[4:]
        self.check_no(SAMPLE, PLANE, crossed, looped)
        self.assertLess(faces(SAMPLE, crossed), 6)

    def test_drawings_that_are_none(self):
        wrong = [DRAWING[:7], DRAWING + ((),), list(DRAWING), DRAWING[:6] + (["t", "s"], ()), (DRAWING,), DRAWING[::-1]]
        wrong += [DRAWING[:5] + (("t",), ("t", "s"), ()), DRAWING[:5] + (("t", "s", "s"), ("t", "s"), ()), DRAWING[:7] + (None,)]
        self.check_no(SAMPLE, PLANE, *wrong, *ODD_VALUES)

    def test_claims_of_another_form(self):
        for graph, claim, warrant in ((SAMPLE, PLANE, DRAWING), (FIVE, NOT_PLANE, FIVE_WARRANT), (SIX, NOT_PLANE, SIX_WARRANT)):
            self.check_yes(graph, claim, warrant)
            wrong = ODD_VALUES + [claim + (0,), claim * 2, list(claim), claim[0], (claim,), (claim[0].upper(),), ("hole",)]
            for other in wrong + [NOT_PLANE if claim == PLANE else PLANE, ("plain",), ("not plane", ())]:
                self.check_no(graph, other, warrant)
            self.check_no(graph, claim, *ODD_VALUES)

    def test_any_values(self):
        self.check_looker(SAMPLE, PLANE, DRAWING)
        self.check_looker(FIVE, NOT_PLANE, FIVE_WARRANT)
        self.check_looker(SIX, NOT_PLANE, SIX_WARRANT)


class TestNotPlaneHolds(WardCase):
    looker = plane_holds

    def test_right_ones_of_five(self):
        label = {frozenset(edge[1:3]): edge[0] for edge in FIVE.edges}
        for nodes in itertools.permutations("abcde"):
            walks = tuple((label[frozenset(pair)],) for pair in itertools.combinations(nodes, 2))
            self.check_yes(FIVE, NOT_PLANE, (nodes, walks))

    def test_right_ones_of_six(self):
        label = {frozenset(edge[1:3]): edge[0] for edge in SIX.edges}
        for first, last in (("ace", "bdf"), ("bdf", "ace")):
            for former, latter in itertools.product(itertools.permutations(first), itertools.permutations(last)):
                walks = tuple((label[frozenset(pair)],) for pair in itertools.product(former, latter))
                self.check_yes(SIX, NOT_PLANE, (former + latter, walks))

    def test_longer_walks(self):
        graph = FIVE.with_node("f").with_node("g").with_edge(("x", "a", "f", 0, 0)).with_edge(("y", "g", "f", 0, 0))
        graph = graph.with_edge(("z", "g", "b", 0, 0)).with_edge(("w", "f", "c", 0, 0))
        nodes, walks = FIVE_WARRANT
        self.check_yes(graph, NOT_PLANE, FIVE_WARRANT, (nodes, (("x", "y", "z"),) + walks[1:]))
        self.check_yes(graph.without_edge("a"), NOT_PLANE, (nodes, (("x", "y", "z"),) + walks[1:]))
        # Turned round, a walk goes from b to a.
        self.check_no(graph, NOT_PLANE, (nodes, (("z", "y", "x"),) + walks[1:]))
        self.check_yes(graph, NOT_PLANE, (nodes, walks[:1] + (("x", "w"),) + walks[2:]))
        # Two walks with a common inner node.
        self.check_no(graph, NOT_PLANE, (nodes, (("x", "y", "z"), ("x", "w")) + walks[2:]))
        # A walk through another one of the nodes, or through one of its ends.
        self.check_no(graph, NOT_PLANE, (nodes, (("b", "e"),) + walks[1:]), (nodes, (("x", "w", "e"),) + walks[1:]))
        self.check_no(graph, NOT_PLANE, (nodes, (("b", "b", "a"),) + walks[1:]), (nodes, (("a", "a", "a"),) + walks[1:]))
        # A node that comes twice in a walk.
        self.check_no(graph, NOT_PLANE, (nodes, (("x", "y", "y", "y", "z"),) + walks[1:]))
        looped = graph.with_edge(("v", "f", "f", 0, 0)).with_edge(("u", "a", "a", 0, 0)).with_edge(("t", "b", "b", 0, 0))
        self.check_yes(looped, NOT_PLANE, (nodes, (("x", "y", "z"),) + walks[1:]))
        for labels in (("x", "v", "y", "z"), ("u", "x", "y", "z"), ("x", "y", "z", "t"), ("u", "a"), ("a", "t")):
            self.check_no(looped, NOT_PLANE, (nodes, (labels,) + walks[1:]))

    def test_a_node_twice(self):
        nodes, walks = FIVE_WARRANT
        for at, name in itertools.product(range(5), "abcde"):
            if nodes[at] != name:
                self.check_no(FIVE, NOT_PLANE, (nodes[:at] + (name,) + nodes[at + 1:], walks))
        loops = joined("abcd", list(itertools.combinations("abcd", 2)) + ["aa", "bb", "cc", "dd"])
        for names in ("aabcd", "abcda"):
            pairs = list(itertools.combinations(names, 2))
            label = {tuple(sorted(edge[1:3])): edge[0] for edge in loops.edges}
            walks = tuple((label[tuple(sorted(pair))],) for pair in pairs)
            self.check_no(loops, NOT_PLANE, (tuple(names), walks))

    def test_six_nodes_with_one_twice(self):
        nodes, walks = SIX_WARRANT
        for at, name in itertools.product(range(6), "abcdef"):
            if nodes[at] != name:
                self.check_no(SIX, NOT_PLANE, (nodes[:at] + (name,) + nodes[at + 1:], walks))

    def test_walks_in_another_order(self):
        for graph, (nodes, walks) in ((FIVE, FIVE_WARRANT), (SIX, SIX_WARRANT)):
            for one, other in itertools.combinations(range(len(walks)), 2):
                changed = list(walks)
                changed[one], changed[other] = walks[other], walks[one]
                self.check_no(graph, NOT_PLANE, (nodes, tuple(changed)))

    def test_too_few_or_too_many(self):
        for graph, (nodes, walks) in ((FIVE, FIVE_WARRANT), (SIX, SIX_WARRANT)):
            self.check_no(graph, NOT_PLANE, (nodes, walks[:-1]), (nodes, walks + walks[:1]), (nodes[:-1], walks), (nodes,))
            self.check_no(graph, NOT_PLANE, (nodes + nodes[:1], walks), (nodes + ("z",), walks), (nodes, walks, ()), ((), ()))
            self.check_no(graph, NOT_PLANE, (nodes[:4], walks[:6]), (nodes, ()), ((), walks), (walks, nodes))

    def test_walks_that_are_none(self):
        for graph, (nodes, walks) in ((FIVE, FIVE_WARRANT), (SIX, SIX_WARRANT)):
            for labels in ((), ("z",), "a", ["a"], ("a", "a"), ("b",), (None,), None, 0, (("a",),), (["a"],), ("a", "z"), graph):
                self.check_no(graph, NOT_PLANE, (nodes, (labels,) + walks[1:]))

    def test_nodes_that_are_none(self):
        for graph, (nodes, walks) in ((FIVE, FIVE_WARRANT), (SIX, SIX_WARRANT)):
            for name in ("z", "x", None, True, 0, ("a",), ["a"], graph, ""):
                self.check_no(graph, NOT_PLANE, ((name,) + nodes[1:], walks))
            self.check_no(graph, NOT_PLANE, (list(nodes), walks), ("".join(nodes), walks), (nodes, list(walks)), [nodes, walks])

    def test_plane_graphs(self):
        for graph, warrant in ((FIVE, FIVE_WARRANT), (SIX, SIX_WARRANT)):
            for edge in graph.edges:
                self.check_no(graph.without_edge(edge[0]), NOT_PLANE, warrant)


if __name__ == "__main__":
    unittest.main()
