"""Points 10 to 12: least prices of ways, their claims and warrants."""

import itertools
import unittest

import slow
from bridgeward.distances import distance, distances, way_claim, way_holds, way_warrant
from bridgeward.errors import Undefined, UnknownNode
from bridgeward.graphs import Graph
from samples import NO_NAMES, ODD_VALUES, WardCase, full_graphs, nested, pairs_of, random_graph

# From s by u or at once to t; o leads to s, w cannot be left; o and w have loops of price below 0.
GRAPH = Graph(
    ("s", "u", "t", "o", "w"),
    (
        ("p", "s", "u", 2, 1), ("q", "u", "t", 3, 1), ("r", "s", "t", 6, 1), ("i", "o", "s", -9, 1),
        ("j", "u", "w", -9, 1), ("k", "o", "o", -1, 1), ("l", "w", "w", -1, 1),
    ),
)
LEAST = ("distance", "s", "t", 5)
MARKS = (0, 2, 5, "before", "past")
NONE = ("no way", "t", "s")
# A round of price 0 at b, one of price below 0 over b and c, a loop of price below 0 at d.
ROUNDS = Graph(
    ("a", "b", "c", "d"),
    (
        ("x", "a", "b", 4, 0), ("o", "b", "b", 0, 0), ("y", "b", "c", 1, 0), ("z", "c", "b", -2, 0),
        ("v", "c", "d", 9, 0), ("w", "d", "d", -1, 0), ("t", "d", "d", 1, 0),
    ),
)
EVER = ("ever less", "a", "c")


class DistanceCase(WardCase):
    def check_answers(self, graph, s, t, claim):
        """All functions tell of s and t just this claim, and some warrant of it."""
        self.assertEqual(way_claim(graph, s, t), claim)
        told = distances(graph, s)[graph.place(t)]
        if claim[0] == "distance":
            self.assertEqual((distance(graph, s, t), told), (claim[3], claim[3]))
        elif claim[0] == "no way":
            self.assertIs(told, None)
            self.check_error(Undefined("way"), distance, graph, s, t)
        else:
            self.assertEqual(told, "less")
            self.check_error(Undefined("least"), distance, graph, s, t)
        warrant = way_warrant(graph, s, t)
        self.assertIs(way_holds(graph, claim, warrant), True)
        self.assertEqual(way_warrant(graph, s, t), warrant)


class TestAnswers(DistanceCase):
    def test_small_graphs_against_a_slow_count(self):
        kinds = set()
        for seed in range(400):
            graph = random_graph(seed, most_nodes=5, most_edges=8, prices=(-2, 5))
            for s, t in pairs_of(graph):
                claim = slow.way_claim(graph, s, t)
                kinds.add((claim[0], s == t))
                self.check_answers(graph, s, t, claim)
        self.assertEqual(len(kinds), 5)

    def test_full_graphs_against_a_slow_count(self):
        for graph in full_graphs():
            for s, t in pairs_of(graph):
                self.check_answers(graph, s, t, slow.way_claim(graph, s, t))
                self.check_small_integers(way_warrant(graph, s, t))

    def test_equal_nodes(self):
        self.check_answers(GRAPH, "s", "s", ("distance", "s", "s", 0))
        self.check_answers(GRAPH, "t", "t", ("distance", "t", "t", 0))
        self.check_answers(GRAPH, "o", "o", ("ever less", "o", "o"))
        self.check_answers(Graph(("a",), ()), "a", "a", ("distance", "a", "a", 0))

    def test_rounds_beside_the_way(self):
        self.check_answers(GRAPH, "s", "t", LEAST)
        self.check_answers(GRAPH, "u", "t", ("distance", "u", "t", 3))
        self.check_answers(GRAPH, "s", "w", ("ever less", "s", "w"))
        self.check_answers(GRAPH, "o", "t", ("ever less", "o", "t"))

    def test_rounds_on_the_way(self):
        for s, t in itertools.product("abc", "bcd"):
            self.check_answers(ROUNDS, s, t, ("ever less", s, t))
        self.assertEqual(distances(ROUNDS, "a"), (0, "less", "less", "less"))
        self.assertEqual(distances(ROUNDS, "d"), (None, None, None, "less"))

    def test_rounds_of_price_0(self):
        graph = Graph(
            ("a", "b", "c"),
            (("l", "b", "b", 0, 0), ("x", "a", "b", 3, 0), ("y", "b", "a", -3, 0), ("z", "b", "c", -4, 0)),
        )
        self.assertEqual(distances(graph, "a"), (0, 3, -1))
        self.assertEqual(distances(graph, "b"), (-3, 0, -4))
        for s, t in pairs_of(graph):
            self.check_answers(graph, s, t, slow.way_claim(graph, s, t))

    def test_parallel_edges(self):
        graph = Graph(("a", "b"), [(label, "a", "b", cents, 0) for label, cents in zip("xyz", (3, -7, 5))])
        self.assertEqual(distances(graph, "a"), (0, -7))
        self.assertEqual(way_warrant(graph, "a", "b")[0], ("y",))

    def test_nodes_without_a_way(self):
        self.assertEqual(distances(GRAPH, "t"), (None, None, 0, None, None))
        self.check_answers(GRAPH, "t", "s", NONE)
        self.check_answers(GRAPH, "s", "o", ("no way", "s", "o"))
        self.check_answers(Graph(("a", "b"), ()), "a", "b", ("no way", "a", "b"))

    def test_unknown_nodes(self):
        for name in NO_NAMES + ["z", "p"]:
            self.check_error(UnknownNode(name), distances, GRAPH, name)
            self.check_error(UnknownNode(name), distances, Graph((), ()), name)
            for call in (distance, way_claim, way_warrant):
                self.check_error(UnknownNode(name), call, GRAPH, name, "zz")
                self.check_error(UnknownNode(name), call, GRAPH, name, "s")
                self.check_error(UnknownNode(name), call, GRAPH, "s", name)


def marks_hold(graph, s, t, d, marks):
    """The conditions of point 11 on marks, one by one."""
    at = dict(zip(graph.nodes, marks))
    whole = {name for name in graph.nodes if isinstance(at[name], int)}
    if not {s, t} <= whole or at[t] - at[s] != d:
        return False
    for _, tail, head, cents, _ in graph.edges:
        if at[head] == "before" and at[tail] != "before" or at[tail] == "past" and at[head] != "past":
            return False
        if {tail, head} <= whole and at[head] > at[tail] + cents:
            return False
    return True


class TestWarrants(DistanceCase):
    looker = way_holds

    def test_all_small_warrants(self):
        for seed in range(14):
            graph = random_graph(seed, most_nodes=3, most_edges=4, prices=(-1, 2))
            rows = list(itertools.product([-1, 0, 1, 2, "before", "past"], repeat=len(graph)))
            for s, t in pairs_of(graph):
                true = slow.way_claim(graph, s, t)
                ways = slow.simple_ways(graph, s, t)
                for d, marks in itertools.product(range(-2, 3), rows):
                    for labels in ways[:2]:
                        due = slow.price(graph, labels) == d and marks_hold(graph, s, t, d, marks)
                        told = way_holds(graph, ("distance", s, t, d), (labels, marks))
                        self.assertIs(told, due)
                        self.assertTrue(not told or true == ("distance", s, t, d))

    def test_all_closed_sets(self):
        for seed in range(60):
            graph = random_graph(seed, most_nodes=5)
            for s, t in pairs_of(graph):
                for many in range(len(graph) + 1):
                    for side in itertools.combinations(graph.nodes, many):
                        due = s in side and t not in side and not slow.leaving(graph, side)
                        self.assertIs(way_holds(graph, ("no way", s, t), side), due)

    def test_just_one_claim_has_the_warrant(self):
        for seed in range(60):
            graph = random_graph(seed)
            for s, t in pairs_of(graph):
                warrant = way_warrant(graph, s, t)
                claims = [("distance", s, t, d) for d in range(-15, 16)] + [("no way", s, t), ("ever less", s, t)]
                self.assertEqual([c for c in claims if way_holds(graph, c, warrant)], [way_claim(graph, s, t)])

    def test_right_ones_of_distances(self):
        self.check_yes(GRAPH, LEAST, (("p", "q"), MARKS), (("p", "q"), (-7, -5, -2, "before", "past")))
        loops = Graph(("a", "b"), (("x", "a", "a", 0, 0), ("y", "a", "b", 1, 0), ("z", "a", "b", 1, 0)))
        for labels in (("y",), ("z",), ("x", "y"), ("x", "x", "x", "z")):
            self.check_yes(loops, ("distance", "a", "b", 1), (labels, (3, 4)))
        lone = Graph(("a", "b"), ())
        for mark in ("before", "past", -5, 10 ** 11):
            self.check_yes(lone, ("distance", "a", "a", 0), ((), (7, mark)))

    def test_distance_not_by_a_way(self):
        self.check_no(GRAPH, LEAST, (("q", "p"), MARKS), (("p", "q", "k"), MARKS))
        self.check_no(GRAPH, ("distance", "s", "s", 0), (("p", "p"), MARKS))

    def test_distance_by_a_way_of_another_price(self):
        self.check_no(GRAPH, LEAST, (("r",), MARKS))

    def test_distance_with_s_or_t_unmarked(self):
        self.check_no(GRAPH, LEAST, (("p", "q"), ("before", 2, 5, "before", "past")))
        self.check_no(GRAPH, LEAST, (("p", "q"), (0, 2, "past", "before", "past")))
        self.check_no(GRAPH, LEAST, (("p", "q"), ("before", "before", "past", "before", "past")))

    def test_distance_with_another_difference(self):
        self.check_no(GRAPH, LEAST, (("p", "q"), (0, 2, 4, "before", "past")))
        self.check_no(GRAPH, LEAST, (("p", "q"), (1, 3, 5, "before", "past")))

    def test_distance_with_an_edge_back_to_before(self):
        self.check_no(GRAPH, LEAST, (("p", "q"), (0, 2, 5, "before", "before")))

    def test_distance_with_an_edge_back_from_past(self):
        self.check_no(GRAPH, LEAST, (("p", "q"), (0, 2, 5, "past", "past")))

    def test_distance_with_an_edge_from_past_to_before(self):
        graph = Graph(("a", "b", "c"), (("x", "b", "c", 0, 0),))
        self.check_no(graph, ("distance", "a", "a", 0), ((), (0, "past", "before")))
        self.check_yes(graph, ("distance", "a", "a", 0), ((), (0, "before", "past")))

    def test_distance_with_an_integer_that_is_too_great(self):
        self.check_no(GRAPH, LEAST, (("p", "q"), (0, 3, 5, "before", "past")))
        self.check_no(GRAPH, LEAST, (("p", "q"), (0, 1, 5, "before", "past")))
        looped = Graph(("a",), (("x", "a", "a", -1, 0),))
        self.check_no(looped, ("distance", "a", "a", 0), ((), (0,)))

    def test_distance_with_marks_of_another_form(self):
        wrong = [MARKS[:4], MARKS + (0,), (), list(MARKS), "before", None, 0, True]
        wrong += [MARKS[:4] + (mark,) for mark in ("beside", "", None, True, (), ["past"], (0,), "Past")]
        self.check_no(GRAPH, LEAST, *[(("p", "q"), marks) for marks in wrong])

    def test_distance_of_another_form(self):
        labels = ("p", "q")
        self.check_no(
            GRAPH, LEAST, (labels,), (labels, MARKS, ()), [labels, MARKS], (MARKS, labels), (list(labels), MARKS), (),
            ("r", "u", "t"), ("s",), labels,
        )

    def test_right_ones_of_no_way(self):
        self.check_yes(GRAPH, NONE, ("t",), ("t", "w"))
        self.check_yes(GRAPH, ("no way", "s", "o"), ("s", "u", "t", "w"))

    def test_no_way_without_s(self):
        self.check_no(GRAPH, NONE, ("w",), ())

    def test_no_way_with_t(self):
        self.check_no(GRAPH, NONE, GRAPH.nodes, ("s", "u", "t", "w"))
        self.check_no(GRAPH, ("no way", "t", "t"), ("t",), ())

    def test_no_way_with_an_edge_that_leaves(self):
        self.check_no(GRAPH, NONE, ("u", "t"))
        self.check_no(GRAPH, ("no way", "s", "o"), ("s", "t"), ("s", "u", "t"))

    def test_no_way_out_of_order_or_twice(self):
        self.check_no(GRAPH, NONE, ("w", "t"), ("t", "t"), ("t", "t", "w"))

    def test_no_way_of_another_form(self):
        self.check_no(GRAPH, NONE, ["t"], "t", ("t", "z"), ("t", None), (("t",),), ("t", ["w"]), None)

    def test_right_ones_of_ever_less(self):
        self.check_yes(
            ROUNDS, EVER, (("x",), ("y", "z"), ("y",)), (("x", "y"), ("z", "y"), ()), (("x", "o"), ("y", "z"), ("y",)),
            (("x",), ("y", "z", "y", "z"), ("y", "z", "y")), (("x",), ("o", "y", "z"), ("o", "y")),
        )
        self.check_yes(ROUNDS, ("ever less", "d", "d"), ((), ("w",), ()), ((), ("t", "w", "w"), ("t",)))

    def test_ever_less_that_does_not_lead_to_the_round(self):
        self.check_no(ROUNDS, EVER, ((), ("y", "z"), ("y",)), (("x", "y"), ("y", "z"), ("y",)))
        self.check_no(ROUNDS, EVER, (("y",), ("z", "y"), ()))

    def test_ever_less_without_a_round(self):
        self.check_no(ROUNDS, EVER, (("x",), (), ("y",)), (("x",), ("y",), ()), (("x", "y"), ("z",), ("y",)))
        self.check_no(ROUNDS, ("ever less", "a", "b"), (("x", "y"), ("z",), ()))

    def test_ever_less_with_a_round_of_price_0_or_more(self):
        self.check_no(ROUNDS, EVER, (("x",), ("o",), ("y",)))
        self.check_no(ROUNDS, ("ever less", "d", "d"), ((), ("t",), ()), ((), ("t", "w"), ()), ((), (), ()))

    def test_ever_less_that_does_not_lead_to_the_end(self):
        self.check_no(ROUNDS, EVER, (("x",), ("y", "z"), ()), (("x",), ("y", "z"), ("y", "z")), ((), ("w",), ()))
        self.check_no(ROUNDS, EVER, (("x",), ("y", "z"), ("y", "v")))

    def test_ever_less_of_another_form(self):
        good = (("x",), ("y", "z"), ("y",))
        self.check_no(
            ROUNDS, EVER, good[:2], good + ((),), list(good), (["x"], ("y", "z"), ("y",)), ("x", "yz", "y"),
            (("x",), ["y", "z"], ("y",)), (("x",), ("y", "z"), ["y"]), (("x",), ("y", None), ("y",)), None, ("x",),
        )

    def test_long_warrants(self):
        many = ("y", "z") * 900
        self.check_yes(ROUNDS, EVER, (("x",) + many, many, many + ("y",)))
        self.check_no(ROUNDS, EVER, (("x",) + many, many, many))

    def test_claims_of_another_form(self):
        warrant = (("p", "q"), MARKS)
        wrong = ODD_VALUES + [
            ("distance", "s", "t"), LEAST + (5,), list(LEAST), ("flow", "s", "t", 5), ("Distance", "s", "t", 5),
            ("distance", "t", "s", 5), ("distance", "s", "t", True), ("distance", "s", "t", "5"), ("distance",),
            "distance", ("distance", "s", "t", (5,)), ("distance", "s", "z", 5), (["distance"], "s", "t", 5),
            nested(20),
        ]
        wrong += [LEAST[:at] + (value,) + LEAST[at + 1:] for at in range(4) for value in NO_NAMES]
        for claim in wrong:
            self.assertIs(way_holds(GRAPH, claim, warrant), False)
        lone = Graph(("a",), ())
        for zero in (False, None, "", ()):
            self.assertIs(way_holds(lone, ("distance", "a", "a", zero), ((), (0,))), False)
        wrong = [NONE + ("t",), ("no way", "t"), list(NONE), ("no way", "t", "z"), ("no way", ["t"], "s"), ("no",)]
        for claim in wrong:
            self.assertIs(way_holds(GRAPH, claim, ("t",)), False)
        for claim in (EVER + ("c",), EVER[:2], list(EVER), ("ever", "a", "c"), ("no way", "a", "c"), ("tour",)):
            self.assertIs(way_holds(ROUNDS, claim, (("x",), ("y", "z"), ("y",))), False)

    def test_any_values(self):
        self.check_looker(GRAPH, LEAST, (("p", "q"), MARKS))
        self.check_looker(GRAPH, NONE, ("t", "w"))
        self.check_looker(ROUNDS, EVER, (("x",), ("y", "z"), ("y",)))
        for claim in (LEAST, NONE, EVER):
            for value in ODD_VALUES:
                self.assertIs(way_holds(GRAPH, claim, value), False)


if __name__ == "__main__":
    unittest.main()
