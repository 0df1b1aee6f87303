"""Points 17 to 20: parts, bridges and cut nodes, their claims and warrants."""

import itertools
import unittest

import slow
from bridgeward.errors import InvalidQuestion
from bridgeward.graphs import Graph
from bridgeward.parts import bridges, cut_claim, cut_holds, cut_nodes, cut_warrant, parts
from samples import ODD_VALUES, WardCase, full_graphs, random_graph

KINDS = ("parts", "bridges", "cut nodes")
# A triangle a b c, a bridge from c to d, two edges and a loop there; o with a loop, p without edges.
GRAPH = Graph(
    ("a", "b", "c", "d", "e", "o", "p"),
    (
        ("x", "a", "b", 0, 0), ("y", "c", "b", 0, 0), ("z", "a", "c", 0, 0), ("w", "c", "d", 0, 0),
        ("u", "d", "e", 0, 0), ("v", "e", "d", 0, 0), ("l", "d", "d", 0, 0), ("m", "o", "o", 0, 0),
    ),
)
ROWS = (("a", "b", "c", "d", "e"), ("o",), ("p",))
PARTS = ("parts", ROWS)
TREES = (("x", "y", "w", "u"), (), ())
BRIDGES = ("bridges", ("w",))
MEMBERS = (
    ("circle", "a", ("x", "y", "z")), ("circle", "b", ("y", "z", "x")), ("circle", "c", ("y", "x", "z")),
    ("side", ("a", "b", "c")), ("circle", "d", ("u", "v")), ("circle", "e", ("u", "v")), ("circle", "d", ("l",)),
    ("circle", "o", ("m",)),
)
CUT_NODES = ("cut nodes", ("c", "d"))
NODES = (
    ("tree", ("y", "w", "u")), ("tree", ("z", "w", "v")), ("side", ("a", "b")), ("side", ("e",)),
    ("tree", ("x", "z", "w")), ("tree", ()), ("tree", ()),
)


def replaced(row, at, member):
    return row[:at] + (member,) + row[at + 1:]


class TestAnswers(WardCase):
    looker = cut_holds

    def check_graph(self, graph):
        due = {"parts": slow.parts(graph), "bridges": slow.bridges(graph), "cut nodes": slow.cut_nodes(graph)}
        self.assertEqual(parts(graph), due["parts"])
        self.assertEqual(bridges(graph), due["bridges"])
        self.assertEqual(cut_nodes(graph), due["cut nodes"])
        for kind in KINDS:
            claim = (kind, due[kind])
            self.assertEqual(cut_claim(graph, kind), claim)
            warrant = cut_warrant(graph, kind)
            self.assertEqual(cut_warrant(graph, kind), warrant)
            self.check_yes(graph, claim, warrant)
            self.check_others(graph, claim, warrant)

    def check_others(self, graph, claim, warrant):
        """The warrant is none of claims with a member more, fewer, or elsewhere."""
        kind, row = claim
        others = [row + (member,) for member in (("a",), "a", "p", ())] + [row + row, row[::-1], list(row)]
        others += [row[:at] + row[at + 1:] for at in range(len(row))]
        for other in others:
            if other != row:
                self.check_no(graph, (kind, other), warrant)

    def test_small_graphs_against_a_slow_count(self):
        for seed in range(400):
            self.check_graph(random_graph(seed, most_nodes=6, most_edges=8))

    def test_full_graphs_against_a_slow_count(self):
        for graph in full_graphs():
            self.check_graph(graph)

    def test_sample(self):
        self.check_graph(GRAPH)
        self.assertEqual((parts(GRAPH), bridges(GRAPH), cut_nodes(GRAPH)), (ROWS, ("w",), ("c", "d")))

    def test_nothing(self):
        empty = Graph((), ())
        self.check_graph(empty)
        for kind in KINDS:
            self.assertEqual((cut_claim(empty, kind), cut_warrant(empty, kind)), ((kind, ()), ()))

    def test_nodes_without_edges(self):
        lone = Graph(("b", "a"), ())
        self.check_graph(lone)
        self.assertEqual((parts(lone), bridges(lone), cut_nodes(lone)), ((("b",), ("a",)), (), ()))

    def test_loops_and_parallel_edges(self):
        graph = Graph(("a", "b"), (("l", "a", "a", 0, 0), ("x", "b", "a", 0, 0)))
        self.check_graph(graph)
        self.assertEqual((bridges(graph), cut_nodes(graph)), (("x",), ()))
        self.assertEqual(bridges(graph.with_edge(("y", "a", "b", 0, 0))), ())

    def test_node_order_is_not_that_of_names(self):
        graph = Graph("c b a d".split(), (("z", "a", "b", 0, 0), ("y", "c", "a", 0, 0), ("x", "d", "a", 0, 0)))
        self.check_graph(graph)
        self.assertEqual((parts(graph), bridges(graph)), ((("c", "b", "a", "d"),), ("z", "y", "x")))

    def test_kinds(self):
        for call in (cut_claim, cut_warrant):
            for kind in ODD_VALUES + ["Parts", "part", "cut node", "strong", ("parts",), ["bridges"], "parts "]:
                self.check_error(InvalidQuestion(kind), call, GRAPH, kind)


class TestAllSmallWarrants(WardCase):
    looker = cut_holds

    def test_parts(self):
        for seed in range(60):
            graph = random_graph(seed, most_nodes=4, most_edges=4)
            rows = slow.parts(graph)
            labels = tuple(edge[0] for edge in graph.edges)
            for warrant in itertools.product(slow.subsets(labels), repeat=len(rows)):
                due = all(map(lambda row, some: self.is_tree(graph, row, some), rows, warrant))
                self.assertIs(cut_holds(graph, ("parts", rows), warrant), due)

    def is_tree(self, graph, row, labels):
        chosen = [edge for edge in graph.edges if edge[0] in labels]
        return len(labels) == len(row) - 1 and len(slow.joined_sets(row, chosen)) == 1

    def test_parts_that_are_others(self):
        for seed in range(60):
            graph = random_graph(seed, most_nodes=4, most_edges=4)
            labels = tuple(edge[0] for edge in graph.edges)
            others = [(tuple(other for other in graph.nodes if other != name), (name,)) for name in graph.nodes[1:]]
            for rows in others + [(graph.nodes,)]:
                if rows != slow.parts(graph):
                    for some in slow.subsets(labels):
                        self.check_no(graph, ("parts", rows), (some,) + ((),) * (len(rows) - 1))

    def test_bridges(self):
        for seed in range(60):
            graph = random_graph(seed, most_nodes=4, most_edges=5)
            warrant = cut_warrant(graph, "bridges")
            sides = list(slow.subsets(graph.nodes))
            circles = list(slow.circles(graph))
            for at, edge in enumerate(graph.edges):
                for side in sides:
                    due = slow.across(graph, side) == [edge]
                    self.assertIs(self.bridges_hold(graph, replaced(warrant, at, ("side", side))), due)
                for name, labels in circles:
                    told = self.bridges_hold(graph, replaced(warrant, at, ("circle", name, labels)))
                    self.assertIs(told, edge[0] in labels)

    def bridges_hold(self, graph, warrant):
        labels = tuple(edge[0] for edge, member in zip(graph.edges, warrant) if member[0] == "side")
        return cut_holds(graph, ("bridges", labels), warrant)

    def test_cut_nodes(self):
        for seed in range(60):
            graph = random_graph(seed, most_nodes=5, most_edges=5)
            warrant = cut_warrant(graph, "cut nodes")
            for at, name in enumerate(graph.nodes):
                others = slow.others_joined(graph, name)
                for side in slow.subsets(graph.nodes):
                    told = self.cut_nodes_hold(graph, replaced(warrant, at, ("side", side)))
                    self.assertIs(told, self.cuts(graph, name, others, side))
                for labels in slow.subsets([edge[0] for edge in graph.edges]):
                    told = self.cut_nodes_hold(graph, replaced(warrant, at, ("tree", labels)))
                    tree = self.is_tree(graph, others, labels) if others else labels == ()
                    self.assertIs(told, tree)

    def cuts(self, graph, name, others, side):
        if not side or not set(side) < set(others):
            return False
        return all(name in edge[1:3] for edge in slow.across(graph, side))

    def cut_nodes_hold(self, graph, warrant):
        nodes = tuple(name for name, member in zip(graph.nodes, warrant) if member[0] == "side")
        return cut_holds(graph, ("cut nodes", nodes), warrant)


class TestParts(WardCase):
    looker = cut_holds

    def test_right_ones(self):
        self.check_yes(
            GRAPH, PARTS, TREES, (("x", "z", "w", "v"), (), ()), (("y", "z", "w", "u"), (), ()),
        )

    def test_too_few_or_too_many_edges(self):
        self.check_no(GRAPH, PARTS, *[(labels, (), ()) for labels in (
            ("x", "y", "w"), ("x", "y", "z", "w", "u"), ("x", "y", "w", "u", "l"), ("x", "y", "w", "u", "v"), (),
        )])

    def test_edges_that_do_not_join_all(self):
        self.check_no(GRAPH, PARTS, *[(labels, (), ()) for labels in (
            ("x", "y", "z", "w"), ("x", "y", "u", "v"), ("x", "y", "u", "l"), ("x", "y", "w", "m"),
        )])

    def test_edges_elsewhere(self):
        self.check_no(GRAPH, PARTS, (("x", "y", "w", "u"), ("m",), ()), (("x", "y", "w", "u"), (), ("m",)))
        self.check_no(GRAPH, PARTS, ((), ("x", "y", "w", "u"), ()))

    def test_labels_in_another_order(self):
        self.check_no(GRAPH, PARTS, *[(labels, (), ()) for labels in (
            ("y", "x", "w", "u"), ("x", "y", "u", "w"), ("x", "y", "w", "w"), ("x", "y", "w", "q"),
            ["x", "y", "w", "u"], "xywu", None, ("x", "y", "w", None), ("x", "y", "w", ["u"]), (("x", "y", "w", "u"),),
        )])

    def test_rows_with_an_edge_between(self):
        rows = (("a", "b", "c"), ("d", "e"), ("o",), ("p",))
        self.check_no(GRAPH, ("parts", rows), (("x", "y"), ("u",), (), ()))
        self.check_yes(GRAPH.without_edge("w"), ("parts", rows), (("x", "y"), ("u",), (), ()))

    def test_rows_that_are_not_joined(self):
        rows = (("a", "b", "c", "d", "e"), ("o", "p"))
        self.check_no(GRAPH, ("parts", rows), (TREES[0], ()), (TREES[0], ("m",)), TREES)
        self.check_yes(GRAPH.with_edge(("n", "o", "p", 0, 0)), ("parts", rows), (TREES[0], ("n",)))

    def test_rows_in_another_order(self):
        wrong = [
            (ROWS[0], ("p",), ("o",)), (("o",), ROWS[0], ("p",)), (("b", "a", "c", "d", "e"), ("o",), ("p",)),
            ROWS[:2], ROWS[1:], ROWS + (("p",),), ROWS + ((),), (ROWS[0], ("o",), ("o",)), (ROWS[0], ("o",), ("q",)),
            (("a", "b", "c", "d", "e", "e"), ("o",), ("p",)), list(ROWS), (list(ROWS[0]), ("o",), ("p",)),
            (ROWS[0], "o", "p"), (ROWS[0], ("o",), (None,)), (ROWS[0], ("o",), None), (ROWS[0], ("o",), (("p",),)),
        ]
        for rows in wrong:
            self.check_no(GRAPH, ("parts", rows), TREES, TREES[:2], TREES[1:], TREES + ((),))
        self.check_no(GRAPH, ("parts", (ROWS[0], ("p",), ("o",))), (TREES[0], (), ()))

    def test_rows_of_the_same_nodes_twice(self):
        graph = Graph(("a", "b"), ())
        self.check_yes(graph, ("parts", (("a",), ("b",))), ((), ()))
        self.check_no(graph, ("parts", (("a",), ("a",))), ((), ()))
        self.check_no(graph, ("parts", (("a",), ("a",), ("b",))), ((), (), ()))
        self.check_no(graph, ("parts", (("a",),)), ((),))
        self.check_no(graph, ("parts", ((), ("a",), ("b",))), ((), (), ()))
        both = Graph(("a", "b"), (("x", "a", "b", 0, 0),))
        self.check_no(both, ("parts", (("a", "b"), ("b",))), (("x",), ()))
        self.check_no(both, ("parts", (("b", "a"),)), (("x",),))

    def test_another_number_of_members(self):
        self.check_no(GRAPH, PARTS, TREES[:2], TREES + ((),), (), list(TREES), None, TREES[0])


class TestBridges(WardCase):
    looker = cut_holds

    def check_member(self, at, *members):
        self.check_no(GRAPH, BRIDGES, *[replaced(MEMBERS, at, member) for member in members])

    def test_right_ones(self):
        self.check_yes(
            GRAPH, BRIDGES, MEMBERS, replaced(MEMBERS, 0, ("circle", "b", ("x", "z", "y"))),
            replaced(MEMBERS, 3, ("side", ("d", "e"))), replaced(MEMBERS, 3, ("side", ("a", "b", "c", "o", "p"))),
            replaced(MEMBERS, 4, ("circle", "d", ("u", "v", "l"))), replaced(MEMBERS, 6, ("circle", "e", ("v", "l", "u"))),
        )

    def test_circles_without_the_edge(self):
        self.check_member(0, ("circle", "d", ("u", "v")), ("circle", "o", ("m",)))
        self.check_member(6, ("circle", "d", ("u", "v")))

    def test_circles_that_are_not_closed(self):
        self.check_member(0, ("circle", "a", ("x", "y")), ("circle", "a", ("x",)))

    def test_circles_from_another_node(self):
        self.check_member(0, ("circle", "b", ("x", "y", "z")), ("circle", "c", ("x", "y", "z")), ("circle", "q", ("x",)))
        self.check_member(6, ("circle", "e", ("l",)))

    def test_circles_with_an_edge_twice(self):
        self.check_member(0, ("circle", "a", ("x", "x")), ("circle", "d", ("w", "z", "x", "y", "w")))
        self.check_member(6, ("circle", "d", ("l", "l")), ("circle", "e", ("u", "l", "u")))

    def test_circles_in_another_order(self):
        self.check_member(0, ("circle", "a", ("x", "z", "y")), ("circle", "a", ()))

    def test_sides_of_edges_that_are_no_bridges(self):
        claim = ("bridges", ("x", "w"))
        for side in slow.subsets(GRAPH.nodes):
            self.check_no(GRAPH, claim, replaced(MEMBERS, 0, ("side", side)))

    def test_sides_of_other_edges(self):
        graph = GRAPH.with_edge(("n", "o", "p", 0, 0))
        members = MEMBERS + (("side", ("o",)),)
        claim = ("bridges", ("w", "n"))
        self.check_yes(graph, claim, members, members[:-1] + (("side", ("p",)),))
        self.check_no(graph, claim, members[:3] + (("side", ("o",)),) + members[4:])
        self.check_no(graph, claim, members[:-1] + (("side", ("a", "b", "c", "o")),))

    def test_sides_that_other_edges_cross(self):
        self.check_member(3, *[("side", side) for side in (("a", "b"), ("d",), ("a", "b", "c", "d"), (), ("a", "d"))])

    def test_sides_that_are_no_rows(self):
        wrong = [
            ("b", "a", "c"), ("a", "b", "c", "c"), ("a", "b", "c", "q"), ["a", "b", "c"], "abc", None, 3,
            ("a", "b", "c", None), ("a", "b", ["c"]),
        ]
        self.check_member(3, *[("side", side) for side in wrong])

    def test_members_of_another_form(self):
        self.check_member(3, ("side",), ("side", ("d", "e"), ()), ["side", ("d", "e")], ("circle", ("d", "e")), ())
        self.check_member(3, ("Side", ("d", "e")), (("d", "e"), "side"), "side", None, ("tree", ("d", "e")))
        self.check_member(0, ("circle", "a"), ("circle", "a", ("x", "y", "z"), ()), ["circle", "a", ("x", "y", "z")])
        self.check_member(0, ("side", "a", ("x", "y", "z")), ("circle", ("x", "y", "z"), "a"), ("a", ("x", "y", "z")))
        self.check_member(0, ("circle", "a", ["x", "y", "z"]), ("circle", "a", "xyz"), ("circle", None, ()), ())
        for word in ("Side", "circle", "", None, ["side"]):
            self.check_no(GRAPH, ("bridges", ()), replaced(MEMBERS, 3, (word, ("a", "b", "c"))))
        for word in ("Circle", "side", "", None, ["circle"]):
            self.check_no(GRAPH, BRIDGES, replaced(MEMBERS, 0, (word, "a", ("x", "y", "z"))))

    def test_another_number_of_members(self):
        self.check_no(GRAPH, BRIDGES, MEMBERS[:-1], MEMBERS + MEMBERS[-1:], (), list(MEMBERS), None)

    def test_other_labels(self):
        for labels in ((), ("w", "w"), ("x", "w"), ("x",), ["w"], "w", ("w", "q"), (("w",),), None, ("w", None)):
            self.check_no(GRAPH, ("bridges", labels), MEMBERS)
        graph = GRAPH.with_edge(("n", "o", "p", 0, 0))
        members = MEMBERS + (("side", ("o",)),)
        for labels in (("n", "w"), ("w",), ("n",), ("w", "n", "n")):
            self.check_no(graph, ("bridges", labels), members)


class TestCutNodes(WardCase):
    looker = cut_holds

    def check_member(self, at, *members):
        self.check_no(GRAPH, CUT_NODES, *[replaced(NODES, at, member) for member in members])

    def test_right_ones(self):
        self.check_yes(
            GRAPH, CUT_NODES, NODES, replaced(NODES, 2, ("side", ("d", "e"))),
            replaced(NODES, 3, ("side", ("a", "b", "c"))), replaced(NODES, 0, ("tree", ("y", "w", "v"))),
            replaced(NODES, 4, ("tree", ("x", "y", "w"))),
        )

    def test_sides_without_members_or_with_all(self):
        self.check_member(2, ("side", ()), ("side", ("a", "b", "d", "e")))

    def test_sides_with_the_node(self):
        self.check_member(2, ("side", ("a", "b", "c")), ("side", ("c", "d", "e")), ("side", ("c",)))

    def test_sides_with_nodes_of_other_parts(self):
        self.check_member(2, ("side", ("a", "b", "o")), ("side", ("o",)), ("side", ("d", "e", "p")), ("side", ("p",)))

    def test_sides_that_are_left_elsewhere(self):
        self.check_member(2, ("side", ("a",)), ("side", ("a", "b", "d")), ("side", ("e",)), ("side", ("b", "e")))
        self.check_member(3, ("side", ("a", "b")), ("side", ("c", "e")))

    def test_sides_of_nodes_that_are_no_cut_nodes(self):
        for claim, at in ((("cut nodes", ("a", "c", "d")), 0), (("cut nodes", ("c", "d", "o")), 5)):
            for side in slow.subsets(GRAPH.nodes):
                self.check_no(GRAPH, claim, replaced(NODES, at, ("side", side)))

    def test_sides_that_are_no_rows(self):
        wrong = [("b", "a"), ("a", "a", "b"), ["a", "b"], "ab", None, ("a", None), ("a", ["b"]), ("a", "b", "q")]
        self.check_member(2, *[("side", side) for side in wrong])

    def test_trees_with_too_few_or_too_many_edges(self):
        self.check_member(0, ("tree", ("y", "w")), ("tree", ("y", "w", "u", "v")), ("tree", ("y", "w", "u", "l")))
        self.check_member(5, ("tree", ("m",)))
        self.check_member(6, ("tree", ("m",)), ("tree", ("x",)))

    def test_trees_that_do_not_join_all(self):
        self.check_member(0, ("tree", ("w", "u", "v")), ("tree", ("y", "w", "m")), ("tree", ("y", "u", "l")))

    def test_trees_with_edges_at_the_node(self):
        self.check_member(0, ("tree", ("x", "z", "w")), ("tree", ("z", "w", "u")))
        graph = Graph(("a", "b", "c"), (("x", "a", "b", 0, 0), ("y", "a", "c", 0, 0), ("z", "b", "c", 0, 0)))
        trees = (("tree", ("z",)), ("tree", ("y",)), ("tree", ("x",)))
        self.check_yes(graph, ("cut nodes", ()), trees)
        self.check_no(graph, ("cut nodes", ()), *[replaced(trees, 0, ("tree", (label,))) for label in "xy"])

    def test_trees_of_cut_nodes(self):
        for labels in slow.subsets([edge[0] for edge in GRAPH.edges]):
            self.check_no(GRAPH, ("cut nodes", ("d",)), replaced(NODES, 2, ("tree", labels)))

    def test_trees_in_another_order(self):
        wrong = [("w", "y", "u"), ("y", "w", "w"), ["y", "w", "u"], "ywu", None, ("y", "w", "q"), ("y", "w", ["u"])]
        self.check_member(0, *[("tree", labels) for labels in wrong])

    def test_members_of_another_form(self):
        self.check_member(2, ("side",), ("side", ("a", "b"), ()), ["side", ("a", "b")], ("tree", ("a", "b")), ())
        self.check_member(2, ("Side", ("a", "b")), (("a", "b"), "side"), "side", None, ("circle", ("a", "b")))
        self.check_member(5, ("tree",), ("tree", (), ()), ["tree", ()], ((), "tree"), ("Tree", ()), None, ())
        for word in ("Side", "tree", "", None, ["side"]):
            self.check_no(GRAPH, ("cut nodes", ("d",)), replaced(NODES, 2, (word, ("a", "b"))))

    def test_another_number_of_members(self):
        self.check_no(GRAPH, CUT_NODES, NODES[:-1], NODES + NODES[-1:], (), list(NODES), None)

    def test_other_nodes(self):
        for nodes in ((), ("c",), ("d", "c"), ("c", "d", "d"), ("a", "c", "d"), ["c", "d"], "cd", None, ("c", None)):
            self.check_no(GRAPH, ("cut nodes", nodes), NODES)


class TestForms(WardCase):
    looker = cut_holds

    def test_claims_of_another_form(self):
        for claim, warrant in ((PARTS, TREES), (BRIDGES, MEMBERS), (CUT_NODES, NODES)):
            wrong = ODD_VALUES + [claim[:1], claim + ((),), list(claim), claim[::-1], claim[0], claim[1]]
            wrong += [(word, claim[1]) for word in ("strong", "order", "forest", "Parts", "", None, ["parts"])]
            for other in wrong:
                self.check_no(GRAPH, other, warrant)
            self.check_no(GRAPH, claim, *ODD_VALUES)

    def test_warrants_of_other_claims(self):
        self.check_no(GRAPH, PARTS, MEMBERS, NODES)
        self.check_no(GRAPH, BRIDGES, TREES, NODES)
        self.check_no(GRAPH, CUT_NODES, TREES, MEMBERS)

    def test_any_values(self):
        self.check_looker(GRAPH, PARTS, TREES)
        self.check_looker(GRAPH, BRIDGES, MEMBERS)
        self.check_looker(GRAPH, CUT_NODES, NODES)

    def test_claims_without_members(self):
        lone = Graph(("a",), (("l", "a", "a", 0, 0),))
        for nothing in (None, False, 0, "", [], ["a"], "a"):
            self.check_no(lone, ("bridges", nothing), (("circle", "a", ("l",)),))
            self.check_no(lone, ("cut nodes", nothing), (("tree", ()),))
            self.check_no(Graph((), ()), ("parts", nothing), ())


if __name__ == "__main__":
    unittest.main()
