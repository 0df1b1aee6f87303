"""Points 38 to 41: questions, claims, the warrants of all claims, refutations."""

import itertools
import random
import unittest

import slow
from bridgeward.claims import answer_of, claim_holds, is_claim, is_question, questions_of, refute, warrant_of
from bridgeward.errors import InvalidClaim, InvalidQuestion
from bridgeward.graphs import Graph
from questions import (
    ANSWERED, CLAIMS, GRAPH, GRAPHS, LONE, ODD, QUESTIONS, RING, answer, few_questions, looker_of, question, questions,
)
from samples import NO_NAMES, ODD_VALUES, WardCase, changed_parts, full_graphs, is_plain, random_graph

# Parts of each kind that fit, and such as do not.
FITTING = {
    "n": ["s", "t", "abcdefgh", "z"], "l": ["x", "s", "t"], "k": [0, 3, 10 ** 12], "i": [0, -3, 10 ** 12],
    "N": [(), ("b",), ("b", "a", "b"), ("x",) * 9], "R": [(), ((),), (("a", "b"), (), ("a",))],
}
NO_NUMBERS = [None, True, False, "", "1", (), (1,), [1], "a", GRAPH]
WRONG = {
    "n": NO_NAMES, "l": NO_NAMES, "k": NO_NUMBERS + [-1], "i": NO_NUMBERS,
    "N": NO_NUMBERS[:5] + [[], ["b"], ("b", "A"), ("b", None), ("b", ("c",)), ("b", ""), (0,), "bc", 0, (["b"],), GRAPH],
    "R": NO_NUMBERS[:5] + [[], [("a",)], (["a"],), ("a",), (("a", None),), (("a",), None), ((("a",),),), (("A",),), 0, GRAPH],
}


def fitting_values(kind, parts):
    """Values of this kind with parts that fit, its names unlike."""
    for found in itertools.product(*[FITTING[part] for part in parts]):
        if parts[:2] != "nn" or found[0] != found[1]:
            yield (kind, *found)


def one_thing_wrong(value, parts):
    """The value with one thing wrong."""
    yield value + value[-1:]
    yield value + (0,)
    yield value + ("s",)
    yield value + ((),)
    yield list(value)
    yield (value,)
    yield value[1:]
    yield value[0] if parts == "" else value[:-1]
    for word in [None, True, "", value[0].upper(), value[0] + " ", (value[0],), [value[0]], "cut tree", "z", 0, GRAPH]:
        yield (word,) + value[1:]
    for at, part in enumerate(parts, 1):
        for other in WRONG[part]:
            yield value[:at] + (other,) + value[at + 1:]
    if len(parts) > 2 and parts != "nnl":
        yield value[:2] + value[3:] + value[2:3]


class TestForms(WardCase):
    def check_forms(self, asks, forms, equal):
        """Just the values of these forms fit; names may be equal in those kinds that equal has."""
        for kind, parts in forms.items():
            for value in fitting_values(kind, parts):
                self.assertIs(asks(value), True, value)
            value = next(fitting_values(kind, parts))
            for other in one_thing_wrong(value, parts):
                self.assertIs(asks(other), False, other)
            if parts[:2] == "nn":
                self.assertIs(asks((kind, "s", "s") + value[3:]), kind in equal)
        for value in ODD_VALUES:
            self.assertIs(asks(value), False)
        for word in NO_NAMES + ["cut tree", "rooms", "edge", "ways", "s", "kind"]:
            for rest in ((), ("s",), ("s", "t"), ("s", "t", 1), ((),), (((),),)):
                self.assertIs(asks((word,) + rest), False)

    def test_questions(self):
        self.check_forms(is_question, QUESTIONS, ["way"])

    def test_claims(self):
        self.check_forms(is_claim, CLAIMS, ["distance", "no way", "ever less"])

    def test_kinds_that_are_only_one(self):
        for kind in set(CLAIMS) - set(QUESTIONS):
            for value in fitting_values(kind, CLAIMS[kind]):
                self.assertIs(is_question(value), False)
        for kind in set(QUESTIONS) - set(CLAIMS):
            for value in fitting_values(kind, QUESTIONS[kind]):
                self.assertIs(is_claim(value), False)

    def test_parts_of_the_other_form(self):
        both = set(QUESTIONS) & set(CLAIMS)
        for kind in both:
            same = QUESTIONS[kind] == CLAIMS[kind]
            self.assertIs(is_claim(next(fitting_values(kind, QUESTIONS[kind]))), same)
            self.assertIs(is_question(next(fitting_values(kind, CLAIMS[kind]))), same)

    def test_a_label_that_is_a_node(self):
        self.assertIs(is_claim(("joined", "s", "t", "s")), True)
        self.assertIs(is_claim(("joined", "s", "s", "x")), False)


class TestAnswers(WardCase):
    looker = claim_holds

    def check_question(self, graph, asked):
        """The answer is that of the section, its warrant holds, and so it is when asked again."""
        claim, warrant = answer_of(graph, asked), warrant_of(graph, asked)
        self.assertEqual(claim, answer(graph, asked), asked)
        self.assertIs(is_claim(claim), True)
        self.check_yes(graph, claim, warrant)
        self.assertIs(looker_of(claim[0])(graph, claim, warrant), True)
        self.assertEqual((answer_of(graph, asked), warrant_of(graph, asked)), (claim, warrant))
        self.assertTrue(is_plain((claim, warrant)))
        self.check_small_integers((claim, warrant))
        if claim[0] != "no node":
            self.assertIn(asked, questions_of(claim))
        self.assertIs(refute(graph, claim), None)

    def test_small_graphs(self):
        for seed in range(60):
            graph = random_graph(seed, most_nodes=4, most_edges=7)
            for asked in questions(graph):
                self.check_question(graph, asked)

    def test_samples(self):
        for graph in GRAPHS:
            for asked in questions(graph, (0, 1, 3, 60)):
                self.check_question(graph, asked)
            for asked in few_questions(graph):
                self.check_question(graph, asked)

    def test_full_graphs(self):
        for graph in full_graphs():
            for kind in QUESTIONS:
                self.check_question(graph, question(kind, ("a", "h"), 40))
                self.check_question(graph, question(kind, ("d", "b"), 5))

    def test_slow_counts(self):
        for seed in range(60):
            graph = random_graph(seed, most_nodes=4, most_edges=5)
            a, b = graph.nodes[0], graph.nodes[-1]
            self.assertEqual(answer_of(graph, ("way", a, b)), slow.way_claim(graph, a, b))
            self.assertEqual(answer_of(graph, ("flow", b, a)), ("flow", b, a, slow.least_room(graph, b, a)))
            self.assertEqual(answer_of(graph, ("least cut", b, a)), ("least cut", b, a, slow.least_cut(graph, b, a)))
            self.assertEqual(answer_of(graph, ("edge ways", a, b)), ("edge ways", a, b, slow.edge_ways(graph, a, b)))
            self.assertEqual(answer_of(graph, ("parts",)), ("parts", slow.parts(graph)))
            self.assertEqual(answer_of(graph, ("bridges",)), ("bridges", slow.bridges(graph)))
            self.assertEqual(answer_of(graph, ("cut nodes",)), ("cut nodes", slow.cut_nodes(graph)))
            self.assertEqual(answer_of(graph, ("strong",)), ("strong", slow.strong_parts(graph)))
            self.assertEqual(answer_of(graph, ("order",)), ("order",) if any(slow.orders(graph)) else ("round",))
            self.assertEqual(answer_of(graph, ("matching",)), ("matching", max(map(len, slow.matchings(graph)))))
            sides = list(slow.two_sides(graph))
            self.assertEqual(answer_of(graph, ("sides",)), ("sides",) if sides else ("odd circle",))
            cover = ("cover", min(map(len, slow.covers(graph))))
            self.assertEqual(answer_of(graph, ("cover",)), cover if sides else ("odd circle",))

    def test_names_that_are_no_nodes(self):
        for graph in GRAPHS:
            for kind, parts in QUESTIONS.items():
                for names in (("z", "s"), ("s", "z"), ("z", "y"), ("y", "z"), ("x", "q"), ("t", "x")):
                    strangers = [name for name in names[:parts.count("n")] if name not in graph.nodes]
                    if strangers:
                        asked = question(kind, names)
                        self.assertEqual(answer_of(graph, asked), ("no node", strangers[0]))
                        self.assertEqual(warrant_of(graph, asked), ())
        self.assertEqual(answer_of(GRAPH, ("way", "z", "z")), ("no node", "z"))

    def test_parallel_edges(self):
        self.assertEqual(answer_of(GRAPH, ("node ways", "s", "u")), ("joined", "s", "u", "x"))
        self.assertEqual(answer_of(GRAPH, ("node ways", "u", "s")), ("node ways", "u", "s", 0))
        self.assertEqual(answer_of(GRAPH.without_edge("x"), ("node ways", "s", "u")), ("joined", "s", "u", "z"))
        back = Graph(GRAPH.nodes, GRAPH.edges[::-1])
        self.assertEqual(answer_of(back, ("node ways", "s", "u")), ("joined", "s", "u", "z"))

    def test_what_is_no_question(self):
        wrong = ODD_VALUES + [("distance", "s", "t"), ("way", "s"), ["parts"], ("parts", ()), ("flow", "s", "s"), ("cut tree",)]
        wrong += [("cheapest", "s", "t", -1), ("cheapest", "s", "t", True), ("tree", "S"), ("no node", "z"), ("hole",) * 2]
        for value in wrong + [("flow", "s", ["t"]), ("parts",) + (None,), (GRAPH,), ("round",), ("no hole",)]:
            self.check_error(InvalidQuestion(value), answer_of, GRAPH, value)
            self.check_error(InvalidQuestion(value), warrant_of, GRAPH, value)


class TestClaimHolds(WardCase):
    looker = claim_holds

    def test_as_the_own_section_says(self):
        for graph in GRAPHS:
            for asked in few_questions(graph):
                claim, warrant = answer_of(graph, asked), warrant_of(graph, asked)
                look = looker_of(claim[0])
                for other in changed_parts(claim):
                    self.assertIs(claim_holds(graph, other, warrant), look(graph, other, warrant), other)
                for other in itertools.islice(changed_parts(warrant), 3000):
                    self.assertIs(claim_holds(graph, claim, other), look(graph, claim, other), other)

    def test_any_values(self):
        for graph in GRAPHS[:3] + GRAPHS[4:]:
            for asked in few_questions(graph):
                self.check_looker(graph, answer_of(graph, asked), warrant_of(graph, asked))

    def test_claims_that_are_not_true(self):
        for graph in GRAPHS[:3]:
            for asked in few_questions(graph):
                truth = answer_of(graph, asked)
                warrants = [warrant_of(other, asked) for other in GRAPHS] + [warrant_of(graph, ("parts",)), ()]
                claims = [answer_of(other, asked) for other in GRAPHS]
                if isinstance(truth[-1], int) and truth[0] != "no flow":
                    claims += [truth[:-1] + (truth[-1] + more,) for more in (-2, -1, 1, 2)]
                for claim in claims:
                    if claim != truth and claim[0] not in ("no node", "joined"):
                        if is_claim(claim):
                            self.assertIsNot(refute(graph, claim), None)
                        self.check_no(graph, claim, *warrants)

    def test_claims_of_one_another(self):
        for graph in GRAPHS:
            pairs = [(answer_of(graph, asked), warrant_of(graph, asked)) for asked in few_questions(graph)]
            truths = [claim for claim, _ in pairs]
            for claim, warrant in pairs:
                for other in GRAPHS:
                    for asked in few_questions(other):
                        found = answer_of(other, asked)
                        if found not in truths and claim_holds(graph, found, warrant):
                            self.assertEqual(found, answer_of(graph, questions_of(found)[0]))

    def test_warrants_hold_only_for_what_is_true(self):
        dice = random.Random(2)
        found = []
        for seed in range(150):
            graph = random_graph(seed, most_nodes=5, most_edges=8)
            # The other graph is the same but for one edge, which has another price and room or is turned round.
            edges = list(graph.edges) or [("x", "a", "b", 1, 1)]
            label, tail, head, price, room = edges.pop()
            edges.append(dice.choice([(label, tail, head, price + 1, 0), (label, head, tail, price, room + 1)]))
            other = Graph(graph.nodes, edges)
            for asked in few_questions(graph):
                claim, warrant = answer_of(graph, asked), warrant_of(graph, asked)
                for warrant in (warrant, *dice.sample(list(changed_parts(warrant)), 5)):
                    for here in (graph, other):
                        holds = claim_holds(here, claim, warrant)
                        self.assertTrue(not holds or refute(here, claim) is None, (here.edges, claim, warrant))
                        found.append(holds)
        self.assertGreater(min(found.count(True), found.count(False)), 3000)

    def test_no_node(self):
        for name in ("z", "x", "a", "abcdefgh"):
            self.check_yes(GRAPH, ("no node", name), ())
            self.check_no(GRAPH, ("no node", name), [], None, False, 0, "", ((),), GRAPH)
        for name in GRAPH.nodes:
            self.check_no(GRAPH, ("no node", name), ())
        for name in NO_NAMES:
            self.check_no(GRAPH, ("no node", name), ())
        self.check_no(GRAPH, ("no node",), ())
        self.check_no(GRAPH, ("no node", "z", "z"), ())
        self.check_no(GRAPH, ["no node", "z"], ())

    def test_joined(self):
        self.check_yes(GRAPH, ("joined", "s", "u", "x"), ())
        self.check_no(GRAPH, ("joined", "s", "u", "x"), [], None, False, 0, "", ((),), ("x",), GRAPH)
        for claim in (
            ("joined", "s", "u", "z"), ("joined", "u", "s", "x"), ("joined", "s", "u", "y"), ("joined", "s", "t", "x"),
            ("joined", "s", "u", "s"), ("joined", "z", "y", "x"), ("joined", "s", "u", None), ("joined", "s", "t", None),
            ("joined", "s", "u"), ("joined", "s", "u", "x", "x"), ["joined", "s", "u", "x"], ("joined", "s", ["u"], "x"),
        ):
            self.check_no(GRAPH, claim, ())
        loop = GRAPH.with_edge(("l", "s", "s", 0, 0))
        self.check_no(loop, ("joined", "s", "s", "l"), ())

    def test_cut_trees_are_no_claims(self):
        one = Graph(("a",), ())
        self.check_no(one, ("cut tree", ()), ())
        self.assertIs(is_claim(("cut tree", ())), False)

    def test_names_that_are_no_nodes(self):
        warrants = [warrant_of(GRAPH, asked) for asked in few_questions(GRAPH)] + [()]
        for kind, parts in CLAIMS.items():
            if parts[:1] == "n" and kind != "no node":
                for value in fitting_values(kind, parts):
                    if "z" in value[1:3] or "abcdefgh" in value[1:3]:
                        self.check_no(GRAPH, value, *warrants)


class TestQuestionsOf(WardCase):
    def test_each_kind(self):
        for kind, parts in CLAIMS.items():
            for claim in fitting_values(kind, parts):
                due = []
                for asked in ANSWERED.get(kind, [kind]):
                    names = claim[1:1 + QUESTIONS[asked].count("n")]
                    due.append(question(asked, names, claim[3] if asked == "cheapest" else 0))
                self.assertEqual(questions_of(claim), tuple(due))

    def test_some(self):
        self.assertEqual(questions_of(("distance", "b", "b", 4)), (("way", "b", "b"),))
        self.assertEqual(questions_of(("cheapest", "a", "b", 3, -4)), (("cheapest", "a", "b", 3),))
        self.assertEqual(questions_of(("joined", "a", "b", "x")), (("node ways", "a", "b"),))
        self.assertEqual(questions_of(("parts", (("a",),))), (("parts",),))
        self.assertEqual(questions_of(("tree", "a", 4)), (("tree", "a"),))

    def test_what_is_no_claim(self):
        wrong = ODD_VALUES + [("way", "s", "t"), ("cut tree", ()), ("flow", "s", "s", 1), ["order"], ("order", ()), ("colours", -1)]
        for value in wrong:
            self.check_error(InvalidClaim(value), questions_of, value)
            self.check_error(InvalidClaim(value), refute, GRAPH, value)


class TestRefute(WardCase):
    looker = claim_holds

    def check_refuted(self, graph, claim, asked):
        """The claim is refuted by the answer to this question, with a warrant of it."""
        other, warrant = refute(graph, claim)
        self.assertEqual(other, answer_of(graph, asked))
        self.assertNotEqual(other, claim)
        self.check_yes(graph, other, warrant)
        self.assertEqual(refute(graph, claim), (other, warrant))

    def test_true_ones(self):
        for graph in GRAPHS:
            for asked in few_questions(graph):
                self.assertIs(refute(graph, answer_of(graph, asked)), None)

    def test_answers_of_other_graphs(self):
        for graph, other in itertools.product(GRAPHS, GRAPHS):
            for asked in few_questions(other):
                claim, truth = answer_of(other, asked), answer_of(graph, asked)
                if claim == truth or claim[0] == "no node":
                    self.assertIs(refute(graph, claim), None)
                else:
                    self.check_refuted(graph, claim, questions_of(claim)[0])

    def test_another_number(self):
        for graph in GRAPHS:
            for asked in few_questions(graph):
                claim = answer_of(graph, asked)
                if isinstance(claim[-1], int) and claim[0] != "no flow":
                    for number in (claim[-1] + 1, claim[-1] + 10 ** 12):
                        self.check_refuted(graph, claim[:-1] + (number,), asked)

    def test_rows_and_labels_in_another_order(self):
        self.assertIs(refute(LONE, ("parts", (("s",), ("t",)))), None)
        for rows in ((("t",), ("s",)), (("s",),), (("s",), ("t",), ("t",)), (("s", "t"),), (("s",), ("t",), ()), (("s", "s"), ("t",))):
            self.check_refuted(LONE, ("parts", rows), ("parts",))
            self.check_refuted(LONE, ("strong", rows), ("strong",))
        graph = GRAPH.without_edge("z").without_edge("q")
        self.assertIs(refute(graph, ("bridges", ("x", "y", "w"))), None)
        for labels in (("y", "x", "w"), ("x", "y"), ("x", "y", "w", "w"), ("x", "x", "y", "w"), ("x", "y", "w", "z"), ()):
            self.check_refuted(graph, ("bridges", labels), ("bridges",))
        self.assertIs(refute(graph, ("cut nodes", ("u", "t"))), None)
        for nodes in (("t", "u"), ("u",), ("u", "t", "t"), ("s", "u", "t"), ()):
            self.check_refuted(graph, ("cut nodes", nodes), ("cut nodes",))
        self.assertIs(refute(ODD, ("parts", (("s", "t", "u", "v"),))), None)
        self.check_refuted(ODD, ("parts", (("t", "s", "u", "v"),)), ("parts",))

    def test_no_node(self):
        for name in ("s", "z", "x"):
            self.assertIs(refute(GRAPH, ("no node", name)), None)

    def test_names_that_are_no_nodes(self):
        self.assertEqual(refute(GRAPH, ("distance", "z", "y", 3)), (("no node", "z"), ()))
        self.assertEqual(refute(GRAPH, ("cheapest", "s", "y", 3, 3)), (("no node", "y"), ()))
        self.assertEqual(refute(GRAPH, ("joined", "z", "s", "x")), (("no node", "z"), ()))
        self.assertEqual(refute(GRAPH, ("no tree", "z")), (("no node", "z"), ()))

    def test_of_another_kind(self):
        self.check_refuted(ODD, ("sides",), ("sides",))
        self.check_refuted(ODD, ("cover", 2), ("cover",))
        self.check_refuted(GRAPH, ("no way", "s", "t"), ("way", "s", "t"))
        self.check_refuted(GRAPH, ("no flow", "s", "t", 2), ("cheapest", "s", "t", 2))
        self.check_refuted(GRAPH, ("odd circle",), ("sides",))
        self.check_refuted(GRAPH, ("joined", "s", "t", "x"), ("node ways", "s", "t"))
        self.check_refuted(GRAPH, ("node ways", "s", "u", 1), ("node ways", "s", "u"))
        self.check_refuted(GRAPH, ("joined", "s", "u", "z"), ("node ways", "s", "u"))
        self.check_refuted(RING, ("colours", 2), ("colours",))
        self.check_refuted(RING, ("no hole",), ("hole",))
        self.check_refuted(ODD, ("hole",), ("hole",))
        self.check_refuted(RING, ("not plane",), ("plane",))


if __name__ == "__main__":
    unittest.main()
