"""Points 36 and 37: how far one price may change, and warrants of it."""

import itertools
import unittest

from bridgeward.claims import answer_of, claim_holds, warrant_of
from bridgeward.errors import InvalidClaim, Refused, UnknownEdge
from bridgeward.graphs import Graph
from bridgeward.spans import price_span, span_holds, span_warrant
from questions import GRAPHS, few_questions
from samples import ODD_VALUES, WardCase, changed_parts, full_graphs, is_plain, random_graph

PRICES = [-1000, -100, -50, *range(-16, 17), 60, 1000]
# Two ways from a to c; a loop at b and d by itself.
SAMPLE = Graph(("a", "b", "c", "d"), (
    ("x", "a", "b", 2, 3), ("y", "b", "c", -1, 1), ("z", "a", "c", 4, 2), ("l", "b", "b", 5, 1),
))
CLAIM = ("distance", "a", "c", 1)
LESS, MORE = ("distance", "a", "c", 0), ("distance", "a", "c", 2)
# Warrants of the claim, of one less and of one more, for some price of x (2, 1, 3) or of z.
HERE = (("x", "y"), (0, 2, 1, "past"))
# Span warrants for z, for x and for the loop.
RISING = ((LESS, (("z",), (0, 2, 0, "past"))), HERE, (("x", "y"), (-3, -1, -2, "past")))
ALONE = ((LESS, (("x", "y"), (0, 1, 0, "past"))), HERE, (MORE, (("x", "y"), (0, 3, 2, "past"))))
FALLING = (("ever less", "a", "c"), (("x",), ("l",), ("y",)))


def span_questions(graph):
    """The questions about the first and last node whose answers may have a span."""
    s, t = graph.nodes[0], graph.nodes[-1]
    found = [("way", s, t), ("way", t, s), ("way", t, t), ("forest",), ("tree", s), ("tree", t), ("perfect",)]
    return found + [("cheapest", s, t, amount) for amount in (0, 1, 2)] + [("cheapest", t, s, 1)]


def span_claims(graph):
    """The true claims about the first and last node that may have a span."""
    found = [answer_of(graph, asked) for asked in span_questions(graph)]
    return [claim for claim in found if claim[0] in ("distance", "cheapest", "forest", "tree", "perfect")]


def question_of(claim):
    parts = {"distance": 2, "cheapest": 3, "forest": 0, "tree": 1, "perfect": 0}[claim[0]]
    return ("way" if claim[0] == "distance" else claim[0],) + claim[1:1 + parts]


def true_prices(graph, claim, label, prices):
    """Those of the prices with which the claim is true."""
    return [price for price in prices if answer_of(graph.with_price(label, price), question_of(claim)) == claim]


class SpanCase(WardCase):
    def check_holds(self, graph, claim, label, span, *givens):
        for given in givens:
            self.assertIs(span_holds(graph, claim, label, *span, given), True, (claim, label, span, given))

    def check_holds_not(self, graph, claim, label, span, *givens):
        for given in givens:
            self.assertIs(span_holds(graph, claim, label, *span, given), False, (claim, label, span, given))


class TestPriceSpan(SpanCase):
    def check_span(self, graph, claim, label, prices):
        """The span has just those of the prices with which the claim is true, and its warrant holds."""
        low, high = price_span(graph, claim, label)
        present = graph[label][3]
        self.assertIn((low, high), ((present, present), (low, None)))
        true = true_prices(graph, claim, label, prices)
        self.assertEqual([p for p in prices if (low is None or low <= p) and (high is None or p <= high)], true)
        if low is not None:
            self.assertEqual(true_prices(graph, claim, label, (low - 1, low)), [low])
        given = span_warrant(graph, claim, label)
        self.check_holds(graph, claim, label, (low, high), given)
        self.check_small_integers(given)
        self.assertTrue(is_plain(given))
        self.assertEqual((span_warrant(graph, claim, label), price_span(graph, claim, label)), (given, (low, high)))
        return "all" if low is None else "one" if high is not None else "from"

    def test_small_graphs(self):
        found = []
        for seed in range(36):
            graph = random_graph(seed, most_nodes=4, most_edges=6)
            for claim in span_claims(graph):
                for label in [edge[0] for edge in graph.edges]:
                    found.append((claim[0], self.check_span(graph, claim, label, PRICES)))
        for kind, word in itertools.product(("distance", "cheapest", "forest", "tree"), ("all", "one", "from")):
            self.assertGreater(found.count((kind, word)), 8, (kind, word))

    def test_perfect_matchings(self):
        found = []
        for seed in range(250):
            graph = random_graph(seed, most_nodes=4, most_edges=7)
            claim = answer_of(graph, ("perfect",))
            if claim[0] == "perfect":
                for label in [edge[0] for edge in graph.edges]:
                    found.append(self.check_span(graph, claim, label, PRICES[::4]))
        for word in ("all", "one", "from"):
            self.assertGreater(found.count(word), 20, word)

    def test_full_graphs(self):
        for graph in full_graphs()[:12]:
            for claim in span_claims(graph):
                for label in [edge[0] for edge in graph.edges][::5]:
                    self.check_span(graph, claim, label, (-3000, -99, 0, 99, 3000))

    def test_sample(self):
        spans = {label: price_span(SAMPLE, CLAIM, label) for label in "xyzl"}
        self.assertEqual(spans, {"x": (2, 2), "y": (-1, -1), "z": (1, None), "l": (0, None)})
        for label in "xyzl":
            self.check_span(SAMPLE, CLAIM, label, PRICES)
        self.assertEqual(price_span(SAMPLE, ("distance", "a", "a", 0), "x"), (None, None))
        self.assertEqual(price_span(SAMPLE, ("distance", "b", "b", 0), "l"), (0, None))

    def test_rooms_of_no_use(self):
        graph = SAMPLE.with_room("y", 0)
        self.assertEqual(price_span(graph, ("cheapest", "a", "c", 2, 8), "y"), (None, None))
        self.assertEqual(price_span(graph, ("cheapest", "a", "c", 2, 8), "z"), (4, 4))
        self.assertEqual(price_span(graph, ("cheapest", "a", "c", 0, 0), "l"), (0, None))
        self.assertEqual(price_span(graph, ("cheapest", "a", "c", 0, 0), "z"), (None, None))

    def test_bridges(self):
        # The bridge to b is in each forest and tree; the dearer of two edges between a and c may only rise.
        graph = Graph(("a", "b", "c"), (("x", "a", "b", 3, 0), ("y", "a", "c", 1, 0), ("z", "a", "c", 5, 0)))
        for claim in (("forest", 4), ("tree", "a", 4)):
            self.assertEqual([price_span(graph, claim, label) for label in "xyz"], [(3, 3), (1, 1), (1, None)])
            for label in "xyz":
                self.check_span(graph, claim, label, PRICES)

    def test_prices_far_away(self):
        graph = Graph(("a", "b"), (("x", "a", "b", 99, 0), ("y", "a", "b", -99, 0), ("z", "b", "a", 99, 0)))
        self.assertEqual(price_span(graph, ("distance", "a", "b", -99), "x"), (-99, None))
        self.assertEqual(price_span(graph, ("forest", -99), "x"), (-99, None))
        row = [("x", "a", "b", -99, 0), ("y", "b", "c", -99, 0), ("z", "c", "d", -99, 0), ("q", "a", "d", 99, 0)]
        graph = Graph(tuple("abcd"), row)
        self.assertEqual(price_span(graph, ("distance", "a", "d", -297), "q"), (-297, None))
        graph = Graph(tuple("abcd"), [(*edge[:3], -edge[3], 0) for edge in row] + [("r", "a", "c", -99, 0)])
        self.assertEqual(price_span(graph, ("distance", "a", "d", -99), "y"), (-297, None))


class TestErrors(SpanCase):
    def check_errors(self, error, *values):
        self.check_error(error, price_span, *values)
        self.check_error(error, span_warrant, *values)

    def test_claims_that_are_none(self):
        wrong = ODD_VALUES + [("distance", "a", "c"), list(CLAIM), ("distance", "a", "c", True), ("tree", "a"), ("way", "a", "c")]
        wrong += [("cheapest", "a", "a", 1, 1), ("forest", "1"), ("forest", 1, 1), ("perfect",), (CLAIM,), ("cut tree", ())]
        for claim in wrong:
            self.check_errors(InvalidClaim(claim), SAMPLE, claim, "x")
            self.check_errors(InvalidClaim(claim), SAMPLE, claim, "w")

    def test_claims_of_other_kinds(self):
        for graph in GRAPHS:
            for asked in few_questions(graph):
                claim = answer_of(graph, asked)
                if claim[0] not in ("distance", "cheapest", "forest", "tree", "perfect"):
                    self.check_errors(InvalidClaim(claim), graph, claim, "w")
        for claim in (("no way", "z", "a"), ("ever less", "a", "c"), ("no flow", "a", "c", 9), ("no tree", "a"), ("no perfect",)):
            self.check_errors(InvalidClaim(claim), SAMPLE, claim, "x")

    def test_claims_that_are_not_true(self):
        for claim in (
            ("distance", "a", "c", 2), ("distance", "c", "a", 0), ("cheapest", "a", "c", 1, 2), ("cheapest", "a", "c", 9, 9),
            ("forest", 2), ("tree", "a", 1), ("tree", "b", 3), ("perfect", 3), ("distance", "z", "c", 1), ("tree", "z", 1),
            ("distance", "a", "z", 1), ("cheapest", "a", "z", 1, 1), ("cheapest", "x", "y", 1, 1), ("distance", "z", "z", 0),
        ):
            for label in ("x", "w", None, ["x"], "a"):
                self.check_errors(Refused(claim), SAMPLE, claim, label)

    def test_labels_that_are_none(self):
        for label in ("w", "a", "", None, True, ("x",), ["x"], SAMPLE):
            self.check_errors(UnknownEdge(label), SAMPLE, CLAIM, label)


class TestSpanHolds(SpanCase):
    def test_right_ones(self):
        self.check_holds(SAMPLE, CLAIM, "z", (1, None), RISING, (RISING[0], (("z",), (5, 7, 6, "past")), HERE))
        self.check_holds(SAMPLE, CLAIM, "x", (2, 2), ALONE)
        self.check_holds(SAMPLE, CLAIM, "l", (0, None), (FALLING, HERE, HERE))
        under = (("ever less", "a", "c"), (("x", "l"), ("l", "l", "l"), ("l", "y")))
        self.check_holds(SAMPLE, CLAIM, "l", (0, None), (under, HERE, HERE))
        # The present price of an edge with all prices from one on need not be among them.
        self.check_holds(SAMPLE.with_price("z", -7), CLAIM, "z", (1, None), RISING)

    def test_right_ones_of_all_prices(self):
        graph = SAMPLE.with_price("x", 5)
        forest = graph.without_node("d").without_edge("z")
        self.check_holds(forest, ("forest", 4), "l", (None, None), (("x", "y"), ("x", "y")))
        self.check_holds_not(forest, ("forest", 4), "x", (None, None), (("x", "y"), ("x", "y")))
        none = (("x",), (0, 2, "before", "before"))
        away = Graph(SAMPLE.nodes, SAMPLE.edges[:1] + (("y", "c", "b", 0, 0),))
        self.check_holds(away, ("distance", "a", "b", 2), "y", (None, None), (none, none), (none, (("x",), (7, 9, "before", "before"))))

    def test_from_each_kind(self):
        for seed in range(40):
            graph = random_graph(seed, most_nodes=4, most_edges=6)
            for claim in span_claims(graph):
                for label in [edge[0] for edge in graph.edges][:3]:
                    span, given = price_span(graph, claim, label), span_warrant(graph, claim, label)
                    low, high = span
                    for other in (None, graph[label][3], (low or 0) - 1, (low or 0) + 1, -1000000):
                        for bounds in ((other, high), (low, other), (other, other)):
                            if bounds != span:
                                self.check_holds_not(graph, claim, label, bounds, given)
                    # Claims that are not true at the prices, in the place of the less, with warrants of the true one.
                    if low is not None:
                        (less, warrant), *rest = given
                        self.assertTrue(claim_holds(graph.with_price(label, low - 1), less, warrant))
                        self.check_holds_not(graph, claim, label, span, ((claim, warrant), *rest), ((claim, given[1]), *rest))

    def check_changed(self, label, span, given):
        """Whatever changes in the span warrant, no is told of what is not plain."""
        self.check_holds(SAMPLE, CLAIM, label, span, given)
        for other in changed_parts(given):
            found = span_holds(SAMPLE, CLAIM, label, *span, other)
            self.assertIs(found, found and is_plain(other), other)
        for other in changed_parts(CLAIM):
            due = other == CLAIM and is_plain(other)
            self.assertIs(span_holds(SAMPLE, other, label, *span, given), due, other)
        for other in ODD_VALUES:
            if other != label:
                self.assertIs(span_holds(SAMPLE, CLAIM, other, *span, given), False, other)
            low, high = [repr(other) == repr(bound) for bound in span]
            self.assertIs(span_holds(SAMPLE, CLAIM, label, other, span[1], given), low)
            self.assertIs(span_holds(SAMPLE, CLAIM, label, span[0], other, given), high)

    def test_any_values(self):
        self.check_changed("z", (1, None), RISING)
        self.check_changed("x", (2, 2), ALONE)
        self.check_changed("l", (0, None), (FALLING, HERE, HERE))

    def test_less_that_is_the_claim(self):
        # Both at the price 1 and at 2 the claim is true.
        self.check_holds_not(SAMPLE, CLAIM, "z", (2, None), ((CLAIM, HERE), HERE, HERE))
        self.check_holds_not(SAMPLE, CLAIM, "z", (3, None), ((CLAIM, HERE), HERE, HERE))
        self.check_holds_not(SAMPLE, CLAIM, "z", (4, 4), ((CLAIM, HERE), HERE, (CLAIM, HERE)))

    def test_less_of_another_kind(self):
        graph = SAMPLE.with_price("z", 0)
        for asked in (("flow", "a", "c"), ("parts",), ("cheapest", "a", "c", 1), ("forest",), ("tree", "a"), ("way", "c", "a")):
            claim, warrant = answer_of(graph, asked), warrant_of(graph, asked)
            self.assertTrue(claim_holds(graph, claim, warrant))
            self.check_holds_not(SAMPLE, CLAIM, "z", (1, None), ((claim, warrant),) + RISING[1:])
        alone = answer_of(SAMPLE.with_price("x", 3), ("tree", "a")), warrant_of(SAMPLE.with_price("x", 3), ("tree", "a"))
        self.check_holds_not(SAMPLE, CLAIM, "x", (2, 2), ALONE[:2] + (alone,))

    def test_less_with_another_given_part(self):
        graph = SAMPLE.with_price("z", 0)
        for asked in (("way", "a", "b"), ("way", "b", "c"), ("way", "a", "a")):
            pair = answer_of(graph, asked), warrant_of(graph, asked)
            self.assertTrue(claim_holds(graph, *pair))
            self.check_holds_not(SAMPLE, CLAIM, "z", (1, None), (pair,) + RISING[1:])
        flows = {amount: ("cheapest", "a", "c", amount) for amount in (1, 2, 3)}
        for label, claim in (("z", answer_of(SAMPLE, flows[2])), ("x", answer_of(SAMPLE, flows[3]))):
            span, given = price_span(SAMPLE, claim, label), span_warrant(SAMPLE, claim, label)
            self.check_holds(SAMPLE, claim, label, span, given)
            under = SAMPLE.with_price(label, span[0] - 1)
            for amount in (1, 2, 3):
                pair = answer_of(under, flows[amount]), warrant_of(under, flows[amount])
                due = amount == claim[3]
                self.assertIs(span_holds(SAMPLE, claim, label, *span, (pair, *given[1:])), due)
        trees = Graph(("a", "b"), (("x", "a", "b", 2, 0), ("y", "b", "a", 3, 0)))
        given = ((("tree", "a", 1), (("x",), ((("b",), 1),))), (("x",), ((("b",), 2),)), (("tree", "a", 3), (("x",), ((("b",), 3),))))
        self.check_holds(trees, ("tree", "a", 2), "x", (2, 2), given)
        other = (("tree", "b", 3), (("y",), ((("a",), 3),)))
        self.assertTrue(claim_holds(trees, *other))
        self.check_holds_not(trees, ("tree", "a", 2), "x", (2, 2), (other,) + given[1:], given[:2] + (other,))

    def test_ever_less_where_the_claim_is_no_distance(self):
        graph = SAMPLE.with_price("l", -1)
        self.assertTrue(claim_holds(graph, *FALLING))
        claim = ("cheapest", "a", "c", 1, 1)
        span, given = price_span(SAMPLE, claim, "l"), span_warrant(SAMPLE, claim, "l")
        self.assertEqual(span, (0, None))
        self.check_holds(SAMPLE, claim, "l", span, given)
        self.check_holds_not(SAMPLE, claim, "l", span, (FALLING, *given[1:]))
        self.check_holds_not(SAMPLE, CLAIM, "l", (0, None), ((("ever less", "a", "b"), FALLING[1]), HERE, HERE))
        self.check_holds_not(SAMPLE, CLAIM, "l", (0, None), ((("ever less", "b", "c"), ((), ("l",), ("y",))), HERE, HERE))
        self.check_holds_not(SAMPLE, CLAIM, "l", (0, None), ((("ever less", "a", "c", 0), FALLING[1]), HERE, HERE))

    def test_a_warrant_for_another_price(self):
        self.check_holds_not(SAMPLE, CLAIM, "z", (1, None), ((LESS, HERE),) + RISING[1:], (RISING[0], RISING[0][1], HERE))
        self.check_holds_not(SAMPLE, CLAIM, "z", (1, None), (RISING[0], HERE, (("z",), (0, 2, 1, "past"))))
        self.check_holds_not(SAMPLE, CLAIM, "z", (2, None), RISING, (RISING[0], HERE, HERE))
        self.check_holds_not(SAMPLE, CLAIM, "z", (0, None), RISING)
        self.check_holds_not(SAMPLE, CLAIM, "x", (2, 2), (ALONE[2], ALONE[1], ALONE[0]), (ALONE[0], ALONE[0][1], ALONE[2]))
        self.check_holds_not(SAMPLE, CLAIM, "x", (2, 2), (ALONE[0], ALONE[1], (LESS, ALONE[0][1])), (ALONE[0], ALONE[1], ALONE[0]))
        more = ("distance", "a", "c", 3)
        self.check_holds_not(SAMPLE, CLAIM, "x", (2, 2), ALONE[:2] + ((more, (("x", "y"), (0, 4, 3, "past"))),))

    def test_a_warrant_for_a_price_above_the_second(self):
        graph = Graph(("s", "u", "v", "t"), (
            ("x", "s", "u", 1, 0), ("y", "u", "v", 6, 0), ("z", "v", "t", 1, 0), ("q", "s", "t", 5, 0),
        ))
        claim = ("distance", "s", "t", 5)
        self.assertEqual(price_span(graph, claim, "y"), (3, None))
        under = (("distance", "s", "t", 4), (("x", "y", "z"), (0, 1, 3, 4)))
        three, four, five = [(("q",), (0, least, 4, 5)) for least in (1, 0, -1)]
        self.check_holds(graph, claim, "y", (3, None), (under, three, four), (under, three, three))
        self.check_holds_not(graph, claim, "y", (3, None), (under, three, five), (under, four, four), (under, four, three))
        away = Graph(SAMPLE.nodes, SAMPLE.edges[:3])
        far, farther, wrong = [(("x",), (0, 2, least, "past")) for least in (-999997, -999998, -999996)]
        claim = ("distance", "a", "b", 2)
        self.assertEqual(price_span(away, claim, "y"), (None, None))
        self.check_holds(away, claim, "y", (None, None), (farther, far), (farther, farther))
        self.check_holds_not(away, claim, "y", (None, None), (farther, wrong), (far, far), (far, farther))

    def test_low_is_not_the_present_price(self):
        for price in (1, 3, 4):
            self.check_holds_not(SAMPLE.with_price("x", price), CLAIM, "x", (2, 2), ALONE)
        for bounds in ((2, 3), (1, 2), (1, 1), (3, 3), (2, None), (None, 2), (None, None), (2, True), ("2", "2"), (2, -2)):
            self.check_holds_not(SAMPLE, CLAIM, "x", bounds, ALONE)
        one = Graph(("a", "b"), (("x", "a", "b", 1, 0),))
        claim, warrant = ("distance", "a", "b", 1), (("x",), (0, 1))
        given = ((("distance", "a", "b", 0), (("x",), (0, 0))), warrant, (("distance", "a", "b", 2), (("x",), (0, 2))))
        self.check_holds(one, claim, "x", (1, 1), given)
        for bounds in ((True, True), (1, True), (True, 1), ((1,), (1,)), ([1], [1])):
            self.check_holds_not(one, claim, "x", bounds, given)

    def test_too_few_or_too_many_members(self):
        for label, span, given in (("z", (1, None), RISING), ("x", (2, 2), ALONE)):
            wrong = [given[:2], given + given[2:], given + ((),), list(given), (), (given,), given[::-1], given[1:]]
            wrong += [(pair,) + given[1:] for pair in (given[0][:1], given[0] + ((),), list(given[0]), given[0][::-1], HERE, ())]
            self.check_holds_not(SAMPLE, CLAIM, label, span, *wrong)
        graph = Graph(("a",), (("l", "a", "a", 3, 0),))
        self.check_holds(graph, ("forest", 0), "l", (None, None), ((), ()))
        self.check_holds_not(graph, ("forest", 0), "l", (None, None), ((),), ((), (), ()), (), [(), ()], None, ((), []), ([], ()))
        self.check_holds_not(graph, ("forest", 0), "l", (None, None), (None, ()), (("l",), ()), ((), ("l",)))
        self.check_holds_not(graph, ("forest", 0), "l", (None, 3), ((), ()), ((), (), ()))
        self.check_holds_not(graph, ("forest", 1), "l", (None, None), ((), ()))

    def test_all_prices_are_looked_at_far_away(self):
        # At the lower one of these two prices x must not be cheaper than z.
        for price, due in ((-1000001, True), (-1000000, True), (-999999, False), (-999998, False)):
            graph = Graph(("a", "b"), (("x", "a", "b", 0, 0), ("z", "a", "b", price, 0)))
            self.assertIs(span_holds(graph, ("distance", "a", "b", price), "x", None, None, ((("z",), (0, price)),) * 2), due)

    def test_names_that_are_no_nodes(self):
        for claim in (("distance", "z", "c", 1), ("distance", "a", "z", 1), ("tree", "z", 1), ("cheapest", "a", "z", 1, 1)):
            for span, given in (((1, None), RISING), ((2, 2), ALONE), ((None, None), (HERE, HERE))):
                self.check_holds_not(SAMPLE, claim, "x", span, given)

    def test_claims_of_other_kinds(self):
        graph = Graph(("a",), (("l", "a", "a", 3, 0),))
        for kind in (("parts",), ("hole",), ("way", "a", "a"), ("matching",), ("tour",), ("flow", "a", "b")):
            claim, warrant = answer_of(graph, kind), warrant_of(graph, kind)
            if kind[0] != "way":
                self.assertTrue(claim_holds(graph, claim, warrant))
                self.check_holds_not(graph, claim, "l", (None, None), (warrant, warrant))
        for claim in ODD_VALUES + [("forest",), ["forest", 0], ("forest", False), ("forest", 0, 0)]:
            self.check_holds_not(graph, claim, "l", (None, None), ((), ()))


if __name__ == "__main__":
    unittest.main()
