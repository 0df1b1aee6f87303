"""Points 13 to 15: greatest and cheapest flows, their claims and warrants."""

import itertools
import unittest

import slow
from bridgeward.cheapest import cheapest_claim, cheapest_flow, cheapest_warrant, flow_holds
from bridgeward.errors import InvalidNumber, Undefined, UnknownNode
from bridgeward.flows import flow_claim, flow_warrant, greatest_flow
from bridgeward.graphs import Graph
from samples import NO_NAMES, ODD_VALUES, WardCase, full_graphs, nested, random_graph, unlike_pairs_of

# From s by u or v to t, or by both; a loop of price below 0 at u, and a round of such a price beside all.
GRAPH = Graph(
    ("s", "u", "v", "t", "f", "g"),
    (
        ("a", "s", "u", 2, 3), ("b", "u", "t", 1, 2), ("c", "s", "v", 5, 1), ("d", "v", "t", 4, 4),
        ("e", "u", "v", -3, 2), ("l", "u", "u", -2, 3), ("p", "f", "g", 1, 2), ("q", "g", "f", -4, 3),
    ),
)
FULL = (3, 2, 1, 2, 1, 0, 0, 0)
FLOW = ("flow", "s", "t", 4)
BEST = ("cheapest", "s", "t", 3, -3)
BEST_FLOW = (3, 1, 0, 2, 2, 3, 2, 2)
BEST_MARKS = (0, 2, -1, 3, -1, 3)
NONE = ("no flow", "s", "t", 5)
NO_AMOUNTS = [None, True, False, -1, -10 ** 11, "", "1", "a", (), (1,), [], [1], Graph((), ())]


class FlowCase(WardCase):
    def check_greatest(self, graph, s, t, amount):
        self.assertEqual(greatest_flow(graph, s, t), amount)
        self.assertEqual(flow_claim(graph, s, t), ("flow", s, t, amount))
        warrant = flow_warrant(graph, s, t)
        self.assertEqual(flow_warrant(graph, s, t), warrant)
        self.assertIs(flow_holds(graph, ("flow", s, t, amount), warrant), True)
        self.check_small_integers(warrant)

    def check_cheapest(self, graph, s, t, amount, cost):
        """cost is None if there is no flow of the amount."""
        if cost is None:
            claim = ("no flow", s, t, amount)
            self.check_error(Undefined("amount"), cheapest_flow, graph, s, t, amount)
        else:
            claim = ("cheapest", s, t, amount, cost)
            self.assertEqual(cheapest_flow(graph, s, t, amount), cost)
        self.assertEqual(cheapest_claim(graph, s, t, amount), claim)
        warrant = cheapest_warrant(graph, s, t, amount)
        self.assertEqual(cheapest_warrant(graph, s, t, amount), warrant)
        self.assertIs(flow_holds(graph, claim, warrant), True)
        self.check_small_integers(warrant)

    def check_costs(self, graph, s, t, costs, most):
        for amount in range(most):
            self.check_cheapest(graph, s, t, amount, costs.get(amount))


class TestGreatest(FlowCase):
    def test_small_graphs_against_all_flows_and_all_sides(self):
        for seed in range(150):
            graph = random_graph(seed, most_nodes=4, most_edges=5, most_room=2)
            for s, t in unlike_pairs_of(graph):
                amount = max(slow.least_costs(graph, s, t))
                self.assertEqual(slow.least_room(graph, s, t), amount)
                self.check_greatest(graph, s, t, amount)

    def test_larger_graphs_against_all_sides(self):
        for seed in range(200):
            graph = random_graph(seed, most_nodes=7, most_edges=10, most_room=20)
            for s, t in unlike_pairs_of(graph):
                self.check_greatest(graph, s, t, slow.least_room(graph, s, t))

    def test_full_graphs_against_all_sides(self):
        for graph in full_graphs():
            for s, t in unlike_pairs_of(graph):
                self.check_greatest(graph, s, t, slow.least_room(graph, s, t))

    def test_greatest_room_of_all(self):
        graph = Graph("a b c d e f g h".split(), [(label, "a", "h", 99, 20) for label in "opqrstuvwxyzab"])
        self.check_greatest(graph, "a", "h", 280)
        self.check_greatest(graph, "h", "a", 0)
        self.check_greatest(graph, "b", "c", 0)

    def test_flow_that_must_be_sent_back(self):
        graph = Graph(
            ("s", "a", "b", "c", "d", "t"),
            (
                ("f", "s", "a", 0, 1), ("g", "s", "b", 0, 1), ("h", "a", "d", 0, 1), ("i", "a", "c", 0, 1),
                ("j", "b", "d", 0, 1), ("k", "c", "t", 0, 1), ("l", "d", "t", 0, 1),
            ),
        )
        self.check_greatest(graph, "s", "t", 2)

    def test_errors_in_order(self):
        for call in (greatest_flow, flow_claim, flow_warrant):
            for name in NO_NAMES + ["z", "a"]:
                self.check_error(UnknownNode(name), call, GRAPH, name, "zz")
                self.check_error(UnknownNode(name), call, GRAPH, name, name)
                self.check_error(UnknownNode(name), call, GRAPH, "s", name)
            for name in GRAPH.nodes:
                self.check_error(Undefined("flow"), call, GRAPH, name, name)


class TestCheapest(FlowCase):
    def test_small_graphs_against_all_flows(self):
        below = 0
        for seed in range(150):
            graph = random_graph(seed, most_nodes=4, most_edges=5, most_room=2)
            for s, t in unlike_pairs_of(graph):
                costs = slow.least_costs(graph, s, t)
                below += costs[0] < 0
                self.check_costs(graph, s, t, costs, max(costs) + 3)
        self.assertGreater(below, 50)

    def test_rounds_of_price_below_0(self):
        self.check_costs(GRAPH, "s", "t", {0: -12, 1: -9, 2: -6, 3: -3, 4: 6}, 9)
        self.check_costs(GRAPH, "f", "g", {0: -12, 1: -8, 2: -4}, 6)
        self.check_costs(GRAPH, "t", "s", {0: -12}, 3)

    def test_rounds_far_from_both_nodes(self):
        far = Graph(("s", "t", "a", "b"), (("x", "a", "b", 3, 5), ("y", "b", "a", -4, 7), ("z", "b", "b", -1, 20)))
        self.check_costs(far, "s", "t", {0: -25}, 4)

    def test_full_graphs(self):
        for number, graph in enumerate(full_graphs()):
            for s, t in unlike_pairs_of(graph):
                most = slow.least_room(graph, s, t)
                for amount in {0, min(most, 1), min(most, 60)}:
                    claim = cheapest_claim(graph, s, t, amount)
                    self.check_cheapest(graph, s, t, amount, claim[4])
                self.check_cheapest(graph, s, t, most + 1, None)

    def test_graphs_of_the_greatest_prices_and_rooms(self):
        edges = [(label, "a", "h", -99, 20) for label in "opqrstu"]
        edges += [(label, "h", "a", -99, 20) for label in "vwxyzab"]
        graph = Graph("a b c d e f g h".split(), edges)
        for amount in (0, 1, 60, 140):
            self.check_cheapest(graph, "a", "h", amount, -99 * (280 - amount))
        for amount in (141, 10 ** 12 - 1):
            self.check_cheapest(graph, "a", "h", amount, None)
        row = Graph("a b c d e f g h".split(), [(one, one, two, 99, 20) for one, two in zip("abcdefg", "bcdefgh")])
        self.check_costs(row, "a", "h", {amount: 693 * amount for amount in range(21)}, 23)

    def test_errors_in_order(self):
        for call in (cheapest_flow, cheapest_claim, cheapest_warrant):
            for name in NO_NAMES + ["z", "a"]:
                self.check_error(UnknownNode(name), call, GRAPH, name, "zz", None)
                self.check_error(UnknownNode(name), call, GRAPH, name, name, None)
                self.check_error(UnknownNode(name), call, GRAPH, "s", name, None)
            self.check_error(Undefined("flow"), call, GRAPH, "s", "s", None)
            self.check_error(Undefined("flow"), call, GRAPH, "s", "s", 99)
            for amount in NO_AMOUNTS:
                self.check_error(InvalidNumber(amount), call, GRAPH, "s", "t", amount)
        self.check_error(Undefined("amount"), cheapest_flow, GRAPH, "s", "t", 5)
        self.assertEqual(cheapest_claim(GRAPH, "s", "t", 5), NONE)


def marks_hold(graph, flow, marks):
    """The conditions of point 14 on flow and marks, as they are told."""
    at = dict(zip(graph.nodes, marks))
    for sent, (_, tail, head, cents, room) in zip(flow, graph.edges):
        more = cents + at[tail] - at[head]
        if sent < room and more < 0 or sent > 0 and more > 0:
            return False
    return True


def wrong_sides(s, t):
    """What is no side with s, without t."""
    return [[s], s, (), (t,), (s, t), (s, s), (s, "z"), (s, None), ((s,),), (s, ["u"]), None, 0, True, {}]


class TestWarrants(FlowCase):
    looker = flow_holds

    def test_all_small_warrants_of_greatest_flows(self):
        for seed in range(25):
            graph = random_graph(seed, most_nodes=4, most_edges=4, most_room=2)
            for s, t in unlike_pairs_of(graph):
                flows = set(slow.all_flows(graph, s, t))
                rooms = {side: sum(edge[4] for edge in slow.leaving(graph, side)) for side in slow.sides(graph, s, t)}
                for flow in itertools.product(*[range(edge[4] + 1) for edge in graph.edges]):
                    amount = slow.out_less_in(graph, flow, s)
                    for k, side in itertools.product(range(4), rooms):
                        due = flow in flows and amount == k and rooms[side] == k
                        self.assertIs(flow_holds(graph, ("flow", s, t, k), (flow, side)), due)

    def test_all_small_warrants_of_cheapest_flows(self):
        for seed in range(25):
            graph = random_graph(seed, most_nodes=3, most_edges=4, prices=(-1, 2), most_room=1)
            for s, t in unlike_pairs_of(graph):
                costs = slow.least_costs(graph, s, t)
                for flow in slow.all_flows(graph, s, t):
                    k, c = slow.out_less_in(graph, flow, s), slow.cost(graph, flow)
                    for marks in itertools.product(range(-2, 3), repeat=len(graph)):
                        told = flow_holds(graph, ("cheapest", s, t, k, c), (flow, marks))
                        self.assertIs(told, k >= 0 and marks_hold(graph, flow, marks))
                        self.assertTrue(not told or costs[k] == c)

    def test_all_small_warrants_of_no_flow(self):
        for seed in range(60):
            graph = random_graph(seed, most_nodes=5)
            for s, t in unlike_pairs_of(graph):
                for k, side in itertools.product(range(8), slow.sides(graph, s, t)):
                    due = sum(edge[4] for edge in slow.leaving(graph, side)) < k
                    self.assertIs(flow_holds(graph, ("no flow", s, t, k), side), due)

    def test_right_ones_of_greatest_flows(self):
        self.check_yes(GRAPH, FLOW, (FULL, ("s",)), (FULL, ("s", "f", "g")))
        self.check_yes(GRAPH, FLOW, ((3, 2, 1, 2, 1, 3, 2, 2), ("s",)), ((3, 1, 1, 3, 2, 1, 0, 0), ("s", "f", "g")))

    def test_flow_with_a_number_above_its_room(self):
        self.check_no(GRAPH, FLOW, ((3, 2, 1, 2, 1, 4, 0, 0), ("s",)), ((3, 2, 1, 2, 1, 0, 3, 3), ("s",)))

    def test_flow_with_a_number_below_0(self):
        self.check_no(GRAPH, FLOW, ((3, 2, 1, 2, 1, -1, 0, 0), ("s",)), ((3, 2, 1, 2, 1, 0, -1, -1), ("s",)))

    def test_flow_that_does_not_go_on(self):
        self.check_no(GRAPH, FLOW, ((3, 1, 1, 2, 1, 0, 0, 0), ("s",)), ((3, 2, 1, 2, 1, 0, 1, 0), ("s",)))
        self.check_no(GRAPH, FLOW, ((3, 2, 1, 3, 1, 0, 0, 0), ("s",)), ((3, 2, 1, 2, 0, 0, 0, 0), ("s",)))

    def test_flow_of_another_amount(self):
        self.check_no(GRAPH, FLOW, ((3, 2, 0, 1, 1, 0, 0, 0), ("s",)), ((0,) * 8, ("s",)))
        self.check_no(GRAPH, ("flow", "t", "s", 0), (FULL, ("t",)))
        self.check_yes(GRAPH, ("flow", "t", "s", 0), ((0,) * 8, ("t",)))

    def test_flow_with_another_number_of_numbers(self):
        self.check_no(GRAPH, FLOW, (FULL[:7], ("s",)), (FULL + (0,), ("s",)), ((), ("s",)))

    def test_flow_with_what_is_no_number(self):
        for value in (None, True, "0", "", (), (3,), [0]):
            self.check_no(GRAPH, FLOW, (FULL[:6] + (value,) * 2, ("s",)), (FULL[:5] + (value,) + FULL[6:], ("s",)))
        self.check_no(GRAPH, FLOW, (list(FULL), ("s",)), (None, ("s",)), ("aaaaaaaa", ("s",)), (4, ("s",)))

    def test_flow_with_a_side_of_another_room(self):
        self.check_no(GRAPH, FLOW, (FULL, ("s", "u")), (FULL, ("s", "v")), (FULL, ("s", "f")))
        self.check_no(GRAPH, ("flow", "s", "t", 3), ((3, 2, 0, 1, 1, 0, 0, 0), ("s",)))

    def test_flow_with_no_side(self):
        self.check_no(GRAPH, FLOW, *[(FULL, side) for side in wrong_sides("s", "t")])
        zero = Graph(("s", "u", "t"), (("a", "s", "t", 0, 0),))
        self.check_yes(zero, ("flow", "s", "t", 0), ((0,), ("s",)), ((0,), ("s", "u")))
        sides = [("u",), ("s", "u", "t"), ("s", "t"), ("u", "s"), ("s", "s", "u"), (), ["s"]]
        self.check_no(zero, ("flow", "s", "t", 0), *[((0,), side) for side in sides])

    def test_flow_of_another_form(self):
        self.check_no(
            GRAPH, FLOW, (FULL,), (FULL, ("s",), ()), [FULL, ("s",)], (("s",), FULL), FULL, ("s",), (), None, "ab",
        )

    def test_right_ones_of_cheapest_flows(self):
        self.check_yes(GRAPH, BEST, (BEST_FLOW, BEST_MARKS))
        self.check_yes(GRAPH, BEST, (BEST_FLOW, tuple(mark + 50 for mark in BEST_MARKS)))
        equal = Graph(("a", "b"), (("x", "a", "b", 1, 2), ("y", "a", "b", 1, 2), ("z", "b", "b", 0, 5)))
        for flow in ((1, 1, 0), (2, 0, 5), (0, 2, 3)):
            self.check_yes(equal, ("cheapest", "a", "b", 2, 2), (flow, (0, 1)))

    def test_cheapest_with_a_flow_of_another_amount(self):
        self.check_no(GRAPH, ("cheapest", "s", "t", 2, -3), (BEST_FLOW, BEST_MARKS))
        self.check_no(GRAPH, ("cheapest", "s", "t", 4, -3), (BEST_FLOW, BEST_MARKS))

    def test_cheapest_with_what_is_no_flow(self):
        loops = Graph(("a", "b"), (("x", "a", "a", 0, 2), ("y", "b", "b", 0, 2)))
        claim = ("cheapest", "a", "b", 0, 0)
        self.check_yes(loops, claim, ((2, 1), (0, 0)))
        self.check_no(loops, claim, ((3, 1), (0, 0)), ((2, -1), (0, 0)), ((2,), (0, 0)), ((2, 1, 0), (0, 0)))
        self.check_no(loops, claim, ([2, 1], (0, 0)), ((2, True), (0, 0)), ((2, None), (0, 0)), ("ab", (0, 0)))
        inner = Graph(("a", "b", "c"), (("x", "a", "c", 0, 2), ("y", "c", "b", 0, 2)))
        self.check_no(inner, ("cheapest", "a", "b", 1, 0), ((1, 0), (0, 0, 0)), ((1, 2), (0, 0, 0)))

    def test_cheapest_of_another_cost(self):
        for cost in (-4, -2, 3):
            self.check_no(GRAPH, BEST[:4] + (cost,), (BEST_FLOW, BEST_MARKS))

    def test_cheapest_with_marks_against_an_edge_that_is_not_full(self):
        graph = Graph(("a", "b"), (("x", "a", "b", 3, 2),))
        self.check_yes(graph, ("cheapest", "a", "b", 0, 0), ((0,), (0, 3)), ((0,), (0, -99)))
        self.check_no(graph, ("cheapest", "a", "b", 0, 0), ((0,), (0, 4)))
        self.check_no(GRAPH, BEST, (BEST_FLOW, BEST_MARKS[:4] + (-1, 1)))

    def test_cheapest_with_marks_against_an_edge_that_is_used(self):
        graph = Graph(("a", "b"), (("x", "a", "b", 3, 2),))
        self.check_yes(graph, ("cheapest", "a", "b", 2, 6), ((2,), (0, 3)), ((2,), (0, 99)))
        self.check_no(graph, ("cheapest", "a", "b", 2, 6), ((2,), (0, 2)))
        self.check_yes(graph, ("cheapest", "a", "b", 1, 3), ((1,), (0, 3)))
        self.check_no(graph, ("cheapest", "a", "b", 1, 3), ((1,), (0, 2)), ((1,), (0, 4)))

    def test_cheapest_with_a_loop_that_is_not_used_up(self):
        graph = Graph(("a", "b"), (("x", "a", "a", -2, 3), ("y", "b", "b", 1, 3)))
        self.check_yes(graph, ("cheapest", "a", "b", 0, -6), ((3, 0), (0, 0)))
        self.check_no(graph, ("cheapest", "a", "b", 0, -4), ((2, 0), (0, 0)))
        self.check_no(graph, ("cheapest", "a", "b", 0, -5), ((3, 1), (0, 0)))

    def test_cheapest_with_marks_of_another_form(self):
        wrong = [BEST_MARKS[:5], BEST_MARKS + (0,), list(BEST_MARKS), None, "ssssss", 0, ()]
        wrong += [BEST_MARKS[:5] + (mark,) for mark in (None, "past", True, (-5,), [-5])]
        self.check_no(GRAPH, BEST, *[(BEST_FLOW, marks) for marks in wrong])
        free = Graph(("a", "b"), ())
        self.check_yes(free, ("cheapest", "a", "b", 0, 0), ((), (0, 1)), ((), (9, -9)))
        self.check_no(free, ("cheapest", "a", "b", 0, 0), *[((), (0, mark)) for mark in (None, True, "a", (), [1])])

    def test_cheapest_of_another_form(self):
        good = (BEST_FLOW, BEST_MARKS)
        self.check_no(GRAPH, BEST, good[:1], good + ((),), list(good), good[::-1], BEST_FLOW, (), None, "ab")

    def test_right_ones_of_no_flow(self):
        self.check_yes(GRAPH, NONE, ("s",), ("s", "f", "g"))
        self.check_yes(GRAPH, ("no flow", "s", "t", 99), ("s",), ("s", "u", "v", "f"))

    def test_no_flow_with_a_side_of_enough_room(self):
        self.check_no(GRAPH, NONE, ("s", "u"), ("s", "u", "v"), ("s", "v"))
        self.check_no(GRAPH, ("no flow", "s", "t", 4), ("s",))
        self.check_no(GRAPH, ("no flow", "t", "s", 0), ("t",))
        self.check_yes(GRAPH, ("no flow", "t", "s", 1), ("t",))

    def test_no_flow_with_no_side(self):
        self.check_no(GRAPH, NONE, *wrong_sides("s", "t"))
        self.check_no(GRAPH, ("no flow", "s", "t", 99), ("u",), ("f", "s"), ("s", "f", "f"), GRAPH.nodes, ("s", "t"))

    def test_claims_of_another_form(self):
        warrants = {FLOW: (FULL, ("s",)), BEST: (BEST_FLOW, BEST_MARKS), NONE: ("s",)}
        for claim, warrant in warrants.items():
            wrong = ODD_VALUES + [claim[:-1], claim + (0,), list(claim), claim[:3], claim[:1], nested(20)]
            wrong += [claim[:1] + claim[2:0:-1] + claim[3:], claim[:2] + ("s",) + claim[3:]]
            wrong += [(word,) + claim[1:] for word in ("distance", "flows", "Flow", "", None, ["flow"], True)]
            wrong += [claim[:at] + (name,) + claim[at + 1:] for at in (1, 2) for name in NO_NAMES + ["z", "a"]]
            wrong += [claim[:3] + (amount,) + claim[4:] for amount in NO_AMOUNTS]
            for other in wrong:
                self.assertIs(flow_holds(GRAPH, other, warrant), False, other)
        for cost in (None, True, "-3", (), [-3]):
            self.assertIs(flow_holds(GRAPH, BEST[:4] + (cost,), warrants[BEST]), False)
        free = Graph(("a", "b"), ())
        for zero in (False, None, "", ()):
            self.assertIs(flow_holds(free, ("cheapest", "a", "b", 0, zero), ((), (0, 0))), False)
            self.assertIs(flow_holds(free, ("cheapest", "a", "b", zero, 0), ((), (0, 0))), False)
            self.assertIs(flow_holds(free, ("flow", "a", "b", zero), ((), ("a",))), False)
        self.assertIs(flow_holds(free, ("no flow", "a", "b", True), ("a",)), False)
        self.assertIs(flow_holds(free, ("no flow", "a", "b", 1), ("a",)), True)

    def test_equal_nodes(self):
        loop = Graph(("a",), (("x", "a", "a", 0, 1),))
        self.assertIs(flow_holds(loop, ("flow", "a", "a", 0), ((0,), ("a",))), False)
        self.assertIs(flow_holds(loop, ("cheapest", "a", "a", 0, 0), ((0,), (0,))), False)
        self.assertIs(flow_holds(loop, ("no flow", "a", "a", 9), ("a",)), False)

    def test_amounts_below_0(self):
        graph = Graph(("a", "b"), (("x", "b", "a", 1, 1),))
        self.assertIs(flow_holds(graph, ("cheapest", "a", "b", -1, 1), ((1,), (1, 0))), False)
        self.assertIs(flow_holds(graph, ("cheapest", "b", "a", 1, 1), ((1,), (1, 0))), True)

    def test_any_values(self):
        self.check_looker(GRAPH, FLOW, (FULL, ("s", "f", "g")))
        self.check_looker(GRAPH, BEST, (BEST_FLOW, BEST_MARKS))
        self.check_looker(GRAPH, NONE, ("s", "f", "g"))
        for claim in (FLOW, BEST, NONE):
            for value in ODD_VALUES + [nested(20)]:
                self.assertIs(flow_holds(GRAPH, claim, value), False)


if __name__ == "__main__":
    unittest.main()
