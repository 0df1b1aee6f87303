"""Point 16: ways apart, their claims and warrants."""

import itertools
import unittest

import slow
from bridgeward.apart import edge_ways, node_ways, ways_claim, ways_hold, ways_warrant
from bridgeward.errors import InvalidQuestion, Undefined, UnknownNode
from bridgeward.graphs import Graph
from samples import NO_NAMES, ODD_VALUES, WardCase, full_graphs, nested, random_graph, unlike_pairs_of

KINDS = ("edge ways", "node ways")
# From s by u (two edges in, two out, a loop) or by v and w; an edge back to s, one back from t, o beside all.
GRAPH = Graph(
    ("s", "u", "v", "w", "t", "o"),
    (
        ("a", "s", "u", 0, 0), ("b", "s", "u", 9, 0), ("c", "u", "t", 0, 5), ("d", "u", "t", -9, 0),
        ("e", "s", "v", 0, 0), ("f", "v", "w", 0, 0), ("g", "w", "t", 0, 0), ("l", "u", "u", -1, 1),
        ("m", "v", "s", 0, 0), ("n", "t", "w", 0, 0), ("p", "o", "u", 0, 0), ("q", "t", "u", 0, 0),
    ),
)
EDGEWISE = ("edge ways", "s", "t", 3)
EDGE_WAYS = (("a", "c"), ("b", "d"), ("e", "f", "g"))
NODEWISE = ("node ways", "s", "t", 2)
NODE_WAYS = (("a", "c"), ("e", "f", "g"))
NO_NUMBERS = [None, True, False, -1, "", "3", (), (3,), [3], Graph((), ())]


def joined(graph, s, t):
    return any(edge[1:3] == (s, t) for edge in graph.edges)


class ApartCase(WardCase):
    def check_answer(self, graph, kind, s, t, number):
        count = edge_ways if kind == "edge ways" else node_ways
        self.assertEqual(count(graph, s, t), number)
        self.assertEqual(ways_claim(graph, kind, s, t), (kind, s, t, number))
        warrant = ways_warrant(graph, kind, s, t)
        self.assertEqual(ways_warrant(graph, kind, s, t), warrant)
        for k in range(number + 3):
            self.assertIs(ways_hold(graph, (kind, s, t, k), warrant), k == number)

    def check_no_node_ways(self, graph, s, t):
        for call in (node_ways, lambda *ends: ways_claim(ends[0], "node ways", *ends[1:])):
            self.check_error(Undefined("ways"), call, graph, s, t)
        self.check_error(Undefined("ways"), ways_warrant, graph, "node ways", s, t)


class TestAnswers(ApartCase):
    def check_graph(self, graph):
        for s, t in unlike_pairs_of(graph):
            self.check_answer(graph, "edge ways", s, t, slow.edge_ways(graph, s, t))
            if joined(graph, s, t):
                self.check_no_node_ways(graph, s, t)
            else:
                self.check_answer(graph, "node ways", s, t, slow.node_ways(graph, s, t))

    def test_small_graphs_against_a_slow_count(self):
        for seed in range(250):
            self.check_graph(random_graph(seed, most_nodes=5, most_edges=8))

    def test_full_graphs_against_a_slow_count(self):
        for graph in full_graphs()[:12]:
            self.check_graph(graph)

    def test_sample(self):
        self.check_graph(GRAPH)
        self.check_answer(GRAPH, "edge ways", "s", "t", 3)
        self.check_answer(GRAPH, "node ways", "s", "t", 2)
        self.check_answer(GRAPH, "edge ways", "s", "o", 0)
        self.check_answer(GRAPH, "node ways", "s", "o", 0)

    def test_parallel_edges_and_an_edge_from_s_to_t(self):
        graph = Graph(("s", "t"), [(label, "s", "t", 0, 0) for label in "xyz"] + [("l", "t", "t", 0, 0)])
        self.check_answer(graph, "edge ways", "s", "t", 3)
        self.check_no_node_ways(graph, "s", "t")
        self.check_answer(graph, "edge ways", "t", "s", 0)
        self.check_answer(graph, "node ways", "t", "s", 0)

    def test_the_greatest_numbers(self):
        graph = Graph("a b c d e f g h".split(), [(label, "a", "h", 99, 20) for label in "opqrstuvwxyzab"])
        self.check_answer(graph, "edge ways", "a", "h", 14)
        inner = "bcdefg"
        edges = [(one, "a", one, 0, 0) for one in inner] + [(two, one, "h", 0, 0) for one, two in zip(inner, "opqrst")]
        graph = Graph("a b c d e f g h".split(), edges)
        self.check_answer(graph, "edge ways", "a", "h", 6)
        self.check_answer(graph, "node ways", "a", "h", 6)

    def test_a_first_way_that_is_in_the_way(self):
        edges = "sa sb ac ad bd ct dt".split()
        graph = Graph("s b a c d t".split(), [(ends, ends[0], ends[1], 0, 0) for ends in edges])
        self.check_answer(graph, "edge ways", "s", "t", 2)
        self.check_answer(graph, "node ways", "s", "t", 2)


class TestErrors(ApartCase):
    def calls(self, kind):
        count = edge_ways if kind == "edge ways" else node_ways
        yield count
        yield lambda graph, s, t: ways_claim(graph, kind, s, t)
        yield lambda graph, s, t: ways_warrant(graph, kind, s, t)

    def test_nodes(self):
        for kind in KINDS:
            for call in self.calls(kind):
                for name in NO_NAMES + ["z", "a"]:
                    self.check_error(UnknownNode(name), call, GRAPH, name, "zz")
                    self.check_error(UnknownNode(name), call, GRAPH, name, name)
                    self.check_error(UnknownNode(name), call, GRAPH, "s", name)
                for name in GRAPH.nodes:
                    self.check_error(Undefined("flow"), call, GRAPH, name, name)

    def test_equal_nodes_ahead_of_an_edge(self):
        self.check_error(Undefined("flow"), node_ways, GRAPH, "u", "u")
        self.check_no_node_ways(GRAPH, "s", "u")

    def test_kinds_come_first(self):
        for call in (ways_claim, ways_warrant):
            for kind in ODD_VALUES + ["flow", "Edge ways", "edge", ("edge ways",), ["node ways"], "edge ways "]:
                self.check_error(InvalidQuestion(kind), call, GRAPH, kind, "s", "t")
                self.check_error(InvalidQuestion(kind), call, GRAPH, kind, "zz", None)
                self.check_error(InvalidQuestion(kind), call, GRAPH, kind, "u", "u")


def wrong_sides(s, t):
    """What is no side with s, without t."""
    return [[s], s, (), (t,), (s, t), (s, s), (s, "z"), (s, None), ((s,),), (s, ["u"]), None, 0, True, {}, ("u",)]


class TestWarrants(ApartCase):
    looker = ways_hold

    def test_all_small_warrants_of_edge_ways(self):
        for seed in range(40):
            graph = random_graph(seed, most_nodes=4, most_edges=5)
            for s, t in unlike_pairs_of(graph):
                ways = slow.edgewise_ways(graph, s, t)[:3]
                for k, side in itertools.product(range(4), slow.sides(graph, s, t)):
                    for row in itertools.product(ways, repeat=min(k, 2)):
                        used = "".join("".join(labels) for labels in row)
                        due = len(set(used)) == len(used) and len(row) == k == len(slow.leaving(graph, side))
                        self.assertIs(ways_hold(graph, ("edge ways", s, t, k), (row, side)), due)

    def test_all_small_warrants_of_node_ways(self):
        for seed in range(40):
            graph = random_graph(seed, most_nodes=5, most_edges=6)
            for s, t in unlike_pairs_of(graph):
                true = None if joined(graph, s, t) else slow.node_ways(graph, s, t)
                ways = slow.simple_ways(graph, s, t)[:3]
                others = [name for name in graph.nodes if name not in (s, t)]
                for k in range(3):
                    for row in itertools.product(ways, repeat=k):
                        inner = [graph[label][2] for labels in row for label in labels[:-1]]
                        for nodes, side in itertools.product(
                            itertools.combinations(others, k), slow.sides(graph, s, t)
                        ):
                            closed = all(edge[2] in nodes for edge in slow.leaving(graph, side))
                            due = len(set(inner)) == len(inner) and closed and not set(side) & set(nodes)
                            told = ways_hold(graph, ("node ways", s, t, k), (row, nodes, side))
                            self.assertIs(told, due and true is not None)
                            self.assertTrue(not told or k == true)

    def test_right_ones_of_edge_ways(self):
        self.check_yes(
            GRAPH, EDGEWISE, (EDGE_WAYS, ("s",)), (EDGE_WAYS[::-1], ("s", "v")),
            ((("a", "d"), ("b", "c"), ("e", "f", "g")), ("s",)),
            ((("a", "l", "c"), ("b", "d"), ("e", "f", "g")), ("s", "v", "w")), (EDGE_WAYS, ("s", "u", "v")),
        )

    def test_edge_ways_that_pass_both_nodes(self):
        # Only the edges of a way must not come twice.
        graph = Graph(GRAPH.nodes, [edge for edge in GRAPH.edges if edge[0] not in "be"])
        self.assertIs(ways_hold(graph, ("edge ways", "s", "t", 1), ((("a", "c", "q", "l", "d"),), ("s",))), True)
        graph = Graph(GRAPH.nodes, [edge for edge in GRAPH.edges if edge[0] not in "bf"])
        self.assertIs(ways_hold(graph, ("edge ways", "s", "t", 1), ((("e", "m", "a", "c"),), ("s", "v"))), True)

    def test_edge_ways_with_a_common_edge(self):
        self.check_no(GRAPH, EDGEWISE, ((("a", "c"), ("b", "c"), ("e", "f", "g")), ("s",)))
        self.check_no(GRAPH, EDGEWISE, ((("a", "c"), ("a", "d"), ("e", "f", "g")), ("s",)))

    def test_edge_ways_with_an_edge_twice_in_one(self):
        self.check_no(GRAPH, EDGEWISE, ((("a", "l", "l", "c"), ("b", "d"), ("e", "f", "g")), ("s",)))

    def test_edge_ways_with_what_is_no_way(self):
        wrong = [("e", "g"), ("e", "f"), ("f", "g"), (), ("g", "f", "e"), ("e", "f", "n"), ["e", "f", "g"], "efg"]
        for labels in wrong:
            self.check_no(GRAPH, EDGEWISE, (EDGE_WAYS[:2] + (labels,), ("s",)))

    def test_edge_ways_of_another_number(self):
        self.check_no(GRAPH, EDGEWISE, (EDGE_WAYS[:2], ("s",)), ((), ("s",)), (EDGE_WAYS + ((),), ("s",)))
        self.check_no(GRAPH, ("edge ways", "s", "t", 2), (EDGE_WAYS, ("s",)), (EDGE_WAYS[:2], ("s",)))

    def test_edge_ways_with_a_side_that_more_edges_leave(self):
        self.check_no(GRAPH, EDGEWISE, (EDGE_WAYS, ("s", "o")), (EDGE_WAYS, ("s", "w")), (EDGE_WAYS, ("s", "w", "o")))
        self.check_yes(GRAPH, EDGEWISE, (EDGE_WAYS, ("s", "u", "o")))

    def test_edge_ways_with_no_side(self):
        self.check_no(GRAPH, EDGEWISE, *[(EDGE_WAYS, side) for side in wrong_sides("s", "t")])
        for side in (("v", "s"), ("s", "v", "v"), ("u", "v", "o")):
            self.check_no(GRAPH, EDGEWISE, (EDGE_WAYS, side))
        none = ("edge ways", "o", "s", 0)
        lone = Graph(("o", "x", "s"), (("a", "s", "o", 0, 0),))
        self.assertIs(ways_hold(lone, none, ((), ("o", "x"))), True)
        for side in (("x",), ("o", "x", "s"), ("x", "o"), ("o", "o"), ()):
            self.assertIs(ways_hold(lone, none, ((), side)), False)

    def test_edge_ways_of_another_form(self):
        good = (EDGE_WAYS, ("s",))
        self.check_no(GRAPH, EDGEWISE, good[:1], good + ((),), list(good), good[::-1], EDGE_WAYS, (), None, "ab")
        for ways in (list(EDGE_WAYS), ("ac", "bd", "efg"), None, "abc", 3, nested(20)):
            self.check_no(GRAPH, EDGEWISE, (ways, ("s",)))

    def test_right_ones_of_node_ways(self):
        self.check_yes(
            GRAPH, NODEWISE, (NODE_WAYS, ("u", "v"), ("s",)), (NODE_WAYS, ("u", "w"), ("s", "v")),
            ((("e", "f", "g"), ("b", "d")), ("u", "v"), ("s", "o")), (NODE_WAYS, ("u", "v"), ("s", "o")),
        )

    def test_node_ways_with_a_common_node(self):
        self.check_no(GRAPH, NODEWISE, ((("a", "c"), ("b", "d")), ("u", "v"), ("s",)))

    def test_node_ways_with_a_node_twice_in_one(self):
        self.check_no(GRAPH, NODEWISE, ((("a", "l", "c"), ("e", "f", "g")), ("u", "v"), ("s",)))
        self.check_no(GRAPH, NODEWISE, ((("a", "c"), ("e", "m", "e", "f", "g")), ("u", "v"), ("s",)))

    def test_node_ways_that_pass_s_or_t(self):
        self.check_no(GRAPH, NODEWISE, ((("a", "c"), ("e", "f", "g", "n", "g")), ("u", "v"), ("s",)))
        graph = Graph(
            ("s", "u", "v", "t"),
            (("a", "s", "u", 0, 0), ("b", "u", "s", 0, 0), ("c", "s", "v", 0, 0), ("d", "v", "t", 0, 0),
             ("e", "t", "u", 0, 0), ("f", "u", "t", 0, 0)),
        )
        claim = ("node ways", "s", "t", 2)
        nodes, side = ("u", "v"), ("s",)
        self.assertIs(ways_hold(graph, claim, ((("a", "f"), ("c", "d")), nodes, side)), True)
        self.assertIs(ways_hold(graph.without_edge("f"), claim, ((("a", "b", "c", "d"), ()), nodes, side)), False)
        one = ("node ways", "s", "t", 1)
        alone = graph.without_edge("f")
        self.assertIs(ways_hold(alone, one, ((("c", "d"),), ("v",), ("s", "u"))), True)
        self.assertIs(ways_hold(alone, one, ((("a", "b", "c", "d"),), ("v",), ("s", "u"))), False)
        last = graph.without_edge("a")
        self.assertIs(ways_hold(last, one, ((("c", "d"),), ("v",), ("s",))), True)
        self.assertIs(ways_hold(last, one, ((("c", "d", "e", "f"),), ("v",), ("s",))), False)

    def test_node_ways_with_what_is_no_way(self):
        for labels in (("e", "g"), ("e", "f"), ("f", "g"), (), ("g", "f", "e"), ["e", "f", "g"], "efg"):
            self.check_no(GRAPH, NODEWISE, ((("a", "c"), labels), ("u", "v"), ("s",)))

    def test_node_ways_of_another_number(self):
        self.check_no(GRAPH, NODEWISE, (NODE_WAYS[:1], ("u", "v"), ("s",)), ((), ("u", "v"), ("s",)))
        one = ("node ways", "s", "t", 1)
        self.check_no(GRAPH, one, (NODE_WAYS, ("u", "v"), ("s",)), (NODE_WAYS[:1], ("u", "v"), ("s",)))
        self.check_no(GRAPH, ("node ways", "s", "t", 3), (NODE_WAYS, ("u", "v"), ("s",)))

    def test_node_ways_with_another_number_of_nodes(self):
        self.check_no(GRAPH, NODEWISE, (NODE_WAYS, ("u", "v", "w"), ("s",)), (NODE_WAYS, ("u", "v", "o"), ("s",)))
        self.check_no(GRAPH, NODEWISE, (NODE_WAYS, ("u",), ("s",)))

    def test_node_ways_with_other_nodes(self):
        self.check_no(GRAPH, NODEWISE, (NODE_WAYS, ("v", "u"), ("s",)), (NODE_WAYS, ("u", "u"), ("s",)))
        for nodes in (["u", "v"], "uv", (), None, ("u", "z"), ("u", None), ("u", ["v"]), ("v", "w"), ("u", "w")):
            self.check_no(GRAPH, NODEWISE, (NODE_WAYS, nodes, ("s",)))

    def test_node_ways_with_s_or_t_among_the_nodes(self):
        graph = Graph(("s", "u", "t"), (("a", "s", "u", 0, 0), ("c", "u", "t", 0, 0)))
        claim, ways = ("node ways", "s", "t", 1), (("a", "c"),)
        self.assertIs(ways_hold(graph, claim, (ways, ("u",), ("s",))), True)
        self.assertIs(ways_hold(graph, claim, (ways, ("t",), ("s", "u"))), False)
        lone = Graph(("s", "u", "t"), ())
        for nodes in (("s",), ("t",)):
            self.assertIs(ways_hold(lone, claim, (((),), nodes, ("s",))), False)

    def test_node_ways_with_a_side_that_has_one_of_the_nodes(self):
        self.check_no(GRAPH, NODEWISE, (NODE_WAYS, ("u", "v"), ("s", "v")), (NODE_WAYS, ("v", "w"), ("s", "v")))
        graph = Graph(("s", "u", "v", "t"), (("a", "s", "u", 0, 0), ("b", "u", "v", 0, 0), ("c", "v", "t", 0, 0)))
        claim, ways = ("node ways", "s", "t", 1), (("a", "b", "c"),)
        self.assertIs(ways_hold(graph, claim, (ways, ("v",), ("s", "u"))), True)
        self.assertIs(ways_hold(graph, claim, (ways, ("v",), ("s", "u", "v"))), False)
        dead = Graph(("s", "u", "v", "t"), (("a", "s", "u", 0, 0), ("b", "u", "t", 0, 0)))
        claim, ways = ("node ways", "s", "t", 1), (("a", "b"),)
        self.assertIs(ways_hold(dead, claim, (ways, ("u",), ("s", "v"))), True)
        self.assertIs(ways_hold(dead, claim, (ways, ("v",), ("s", "v"))), False)

    def test_node_ways_with_a_side_from_which_an_edge_leads_elsewhere(self):
        self.check_no(GRAPH, NODEWISE, (NODE_WAYS, ("u", "w"), ("s",)), (NODE_WAYS, ("u", "v"), ("s", "w")))

    def test_node_ways_with_no_side(self):
        self.check_no(GRAPH, NODEWISE, *[(NODE_WAYS, ("u", "v"), side) for side in wrong_sides("s", "t")])
        self.check_no(GRAPH, NODEWISE, (NODE_WAYS, ("u", "v"), ("o", "s")), (NODE_WAYS, ("u", "v"), ("s", "s")))
        self.check_no(GRAPH, NODEWISE, (NODE_WAYS, ("u", "v"), ("o",)), (NODE_WAYS, ("u", "w"), ("s", "v", "t")))
        none = ("node ways", "s", "t", 0)
        lone = Graph(("s", "u", "t"), ())
        self.assertIs(ways_hold(lone, none, ((), (), ("s", "u"))), True)
        for side in (("u",), ("s", "u", "t"), ("u", "s"), ()):
            self.assertIs(ways_hold(lone, none, ((), (), side)), False)

    def test_node_ways_with_an_edge_from_s_to_t(self):
        claim, warrant = ("node ways", "s", "t", 0), ((), (), ("s", "u"))
        lone = Graph(("s", "u", "t"), (("a", "t", "s", 0, 0),))
        self.assertIs(ways_hold(lone, claim, warrant), True)
        joining = Graph(("s", "u", "t"), (("a", "s", "t", 0, 0),))
        self.assertIs(ways_hold(joining, claim, warrant), False)
        self.assertIs(ways_hold(joining, ("node ways", "s", "t", 1), ((("a",),), ("u",), ("s",))), False)
        both = joining.with_edge(("b", "s", "u", 0, 0)).with_edge(("c", "u", "t", 0, 0))
        self.assertIs(ways_hold(both, ("node ways", "s", "t", 1), ((("b", "c"),), ("u",), ("s",))), False)

    def test_node_ways_of_another_form(self):
        good = (NODE_WAYS, ("u", "v"), ("s",))
        self.check_no(GRAPH, NODEWISE, good[:2], good + ((),), list(good), good[::-1], NODE_WAYS, (), None, "abc")
        self.check_no(GRAPH, NODEWISE, (list(NODE_WAYS), ("u", "v"), ("s",)), (("ac", "efg"), ("u", "v"), ("s",)))

    def test_claims_of_another_form(self):
        warrants = {EDGEWISE: (EDGE_WAYS, ("s",)), NODEWISE: (NODE_WAYS, ("u", "v"), ("s",))}
        for claim, warrant in warrants.items():
            wrong = ODD_VALUES + [claim[:-1], claim + (0,), list(claim), claim[:1], claim[:1] + ("t", "s") + claim[3:]]
            wrong += [(word,) + claim[1:] for word in ("flow", "ways", "Edge ways", "", None, ["edge ways"], True)]
            wrong += [claim[:at] + (name,) + claim[at + 1:] for at in (1, 2) for name in NO_NAMES + ["z", "a"]]
            wrong += [claim[:3] + (number,) for number in NO_NUMBERS] + [claim[:2] + ("s",) + claim[3:]]
            for other in wrong:
                self.assertIs(ways_hold(GRAPH, other, warrant), False, other)
        lone = Graph(("a", "b"), ())
        for zero in (False, None, "", ()):
            self.assertIs(ways_hold(lone, ("edge ways", "a", "b", zero), ((), ("a",))), False)
            self.assertIs(ways_hold(lone, ("node ways", "a", "b", zero), ((), (), ("a",))), False)
        self.assertIs(ways_hold(lone, ("edge ways", "a", "a", 0), ((), ("a",))), False)
        self.assertIs(ways_hold(lone, ("node ways", "a", "a", 0), ((), (), ("a",))), False)

    def test_any_values(self):
        self.check_looker(GRAPH, EDGEWISE, (EDGE_WAYS, ("s", "v")))
        self.check_looker(GRAPH, NODEWISE, (NODE_WAYS, ("u", "v"), ("s", "o")))
        for claim in (EDGEWISE, NODEWISE):
            for value in ODD_VALUES:
                self.assertIs(ways_hold(GRAPH, claim, value), False)


if __name__ == "__main__":
    unittest.main()
