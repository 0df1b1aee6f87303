"""Points 43 and 49: edits, and what they change of an answer."""

import random
import unittest

from bridgeward.claims import answer_of
from bridgeward.edits import edited, needed_edges, quiet_edges, touched
from bridgeward.errors import InvalidEdit, InvalidQuestion, Taken, UnknownEdge, UnknownNode
from bridgeward.graphs import Graph
from questions import GRAPHS, QUESTIONS, answer, few_questions, question, questions
from samples import NO_NAMES, ODD_VALUES, WardCase, full_graphs, random_graph

SAMPLE = Graph(("a", "b", "c"), (("x", "a", "b", 2, 3), ("y", "b", "c", -1, 1), ("a", "c", "c", 4, 2)))
# One edit of each form, with the kinds of its parts: n for a name, e an edge, i an integer, k a number.
FORMS = {"add node": "n", "take node": "n", "add edge": "e", "take edge": "n", "set price": "ni", "set room": "nk"}
NO_NUMBERS = [None, True, False, "", "1", (), (1,), [1], "a", SAMPLE]
NO_EDGES = ODD_VALUES + [
    ("w", "a", "b", 1), ("w", "a", "b", 1, 2, 3), ["w", "a", "b", 1, 2], ("w", "a", "b", 1, -1), ("w", "a", "b", True, 1),
    ("w", "a", "b", 1, True), ("w", "a", "b", None, 1), ("w", "A", "b", 1, 1), ("w", "a", None, 1, 1), ("W", "a", "b", 1, 1),
    ("", "a", "b", 1, 1), ("w", "a", ("b",), 1, 1), (["w"], "a", "b", 1, 1), ("w", "a", "b", "1", 1), ("w", "a", 0, 0),
]
WRONG = {"n": NO_NAMES, "e": NO_EDGES, "i": NO_NUMBERS, "k": NO_NUMBERS + [-1]}


def random_edit(dice, graph):
    """An edit that fits the graph or nearly so."""
    names = list(graph.nodes) + ["k"]
    labels = [edge[0] for edge in graph.edges] + ["m"]
    label = dice.choice(labels)
    edge = (label, dice.choice(names), dice.choice(names), dice.randint(-3, 4), dice.randint(0, 3))
    return dice.choice([
        ("add node", dice.choice("abcdefgk")), ("take node", dice.choice(names)), ("add edge", edge), ("add edge", ("n", *edge[1:])),
        ("take edge", label), ("set price", label, edge[3]), ("set room", label, edge[4]), ("set price", label, edge[3]),
    ])


class TestEdited(WardCase):
    def test_each_form(self):
        for edit, nodes, edges in (
            (("add node", "d"), ("a", "b", "c", "d"), SAMPLE.edges),
            (("add node", "x"), ("a", "b", "c", "x"), SAMPLE.edges),
            (("take node", "a"), ("b", "c"), SAMPLE.edges[1:]),
            (("take node", "b"), ("a", "c"), SAMPLE.edges[2:]),
            (("add edge", ("b", "c", "c", -99, 0)), SAMPLE.nodes, SAMPLE.edges + (("b", "c", "c", -99, 0),)),
            (("take edge", "y"), SAMPLE.nodes, SAMPLE.edges[:1] + SAMPLE.edges[2:]),
            (("take edge", "a"), SAMPLE.nodes, SAMPLE.edges[:2]),
            (("set price", "a", -7), SAMPLE.nodes, SAMPLE.edges[:2] + (("a", "c", "c", -7, 2),)),
            (("set room", "x", 0), SAMPLE.nodes, (("x", "a", "b", 2, 0),) + SAMPLE.edges[1:]),
            (("set price", "x", 2), SAMPLE.nodes, SAMPLE.edges), (("set room", "x", 3), SAMPLE.nodes, SAMPLE.edges),
        ):
            found = edited(SAMPLE, edit)
            self.assertEqual(found, Graph(nodes, edges))
            self.assertEqual(found, edited(SAMPLE, edit))
        self.assertEqual(SAMPLE.nodes, ("a", "b", "c"))
        self.assertEqual(SAMPLE.edges, (("x", "a", "b", 2, 3), ("y", "b", "c", -1, 1), ("a", "c", "c", 4, 2)))

    def test_as_the_methods_of_the_graph(self):
        dice = random.Random(3)
        for seed in range(60):
            graph = random_graph(seed)
            text = str(graph)
            for _ in range(20):
                word, *parts = random_edit(dice, graph)
                method = {
                    "add node": graph.with_node, "take node": graph.without_node, "add edge": graph.with_edge,
                    "take edge": graph.without_edge, "set price": graph.with_price, "set room": graph.with_room,
                }[word]
                try:
                    due = method(*parts)
                except (Taken, UnknownNode, UnknownEdge) as error:
                    self.check_error(error, edited, graph, (word, *parts))
                else:
                    self.assertEqual(edited(graph, (word, *parts)), due)
                self.assertEqual(str(graph), text)

    def test_errors_of_the_graph(self):
        self.check_error(Taken("a"), edited, SAMPLE, ("add node", "a"))
        self.check_error(UnknownNode("x"), edited, SAMPLE, ("take node", "x"))
        self.check_error(UnknownNode("d"), edited, SAMPLE, ("add edge", ("x", "d", "e", 0, 0)))
        self.check_error(UnknownNode("e"), edited, SAMPLE, ("add edge", ("x", "a", "e", 0, 0)))
        self.check_error(Taken("x"), edited, SAMPLE, ("add edge", ("x", "a", "b", 0, 0)))
        self.check_error(UnknownEdge("b"), edited, SAMPLE, ("take edge", "b"))
        self.check_error(UnknownEdge("w"), edited, SAMPLE, ("set price", "w", 0))
        self.check_error(UnknownEdge("w"), edited, SAMPLE, ("set room", "w", 0))

    def test_parts_that_do_not_fit(self):
        good = {"n": "x", "e": ("w", "a", "b", 0, 0), "i": 1, "k": 1}
        for word, kinds in FORMS.items():
            edit = (word, *[good[kind] for kind in kinds])
            wrong = [edit + (0,), edit + edit[-1:], edit[:-1], edit[1:], list(edit), (edit,), edit[::-1], word, (word,), edit * 2]
            for at, kind in enumerate(kinds, 1):
                wrong += [edit[:at] + (other,) + edit[at + 1:] for other in WRONG[kind]]
            wrong += [(other,) + edit[1:] for other in ("", "take", word.upper(), word + " ", None, True, (word,), [word], 0)]
            for value in wrong:
                self.check_error(InvalidEdit(value), edited, SAMPLE, value)
        for value in ODD_VALUES + [("undo",), ("redo",), ("nodes", "d"), ("set", "x", 1), ("add", "node", "d"), ("set tail", "x", "a")]:
            self.check_error(InvalidEdit(value), edited, SAMPLE, value)

    def test_parts_that_fit_nowhere_in_the_graph(self):
        # The form is looked at ahead of the graph.
        self.check_error(InvalidEdit(("set price", "w", None)), edited, SAMPLE, ("set price", "w", None))
        self.check_error(InvalidEdit(("set room", "w", -1)), edited, SAMPLE, ("set room", "w", -1))
        edge = ("x", "d", "e", 0, -1)
        self.check_error(InvalidEdit(("add edge", edge)), edited, SAMPLE, ("add edge", edge))


class TestTouched(WardCase):
    def test_random_edits(self):
        dice = random.Random(4)
        found = set()
        for graph in [random_graph(seed, most_nodes=4, most_edges=6) for seed in range(60)] + GRAPHS[:4]:
            for _ in range(6):
                edit = random_edit(dice, graph)
                try:
                    other = edited(graph, edit)
                except (Taken, UnknownNode, UnknownEdge) as error:
                    self.check_error(error, touched, graph, ("parts",), edit)
                    continue
                for asked in few_questions(graph):
                    due = answer(graph, asked) != answer(other, asked)
                    self.assertIs(touched(graph, asked, edit), due)
                    found.add((asked[0], due))
        self.assertEqual({kind for kind, due in found if not due}, set(QUESTIONS))
        self.assertLessEqual(set(QUESTIONS) - {kind for kind, due in found if due}, {"plane"})
        self.assertIs(touched(GRAPHS[3], ("plane",), ("take edge", "c")), True)

    def test_names_that_come_and_go(self):
        self.assertIs(touched(SAMPLE, ("way", "a", "d"), ("add node", "d")), True)
        self.assertIs(touched(SAMPLE, ("way", "d", "e"), ("add node", "e")), False)
        self.assertIs(touched(SAMPLE, ("way", "d", "e"), ("add node", "d")), True)
        self.assertIs(touched(SAMPLE, ("tree", "a"), ("take node", "a")), True)
        self.assertIs(touched(SAMPLE, ("flow", "a", "b"), ("set room", "x", 3)), False)

    def test_errors(self):
        for value in ODD_VALUES + [("distance", "a", "b"), ("flow", "a", "a"), ["parts"], ("cheapest", "a", "b", -1)]:
            self.check_error(InvalidQuestion(value), touched, SAMPLE, value, ("take edge", "x"))
            self.check_error(InvalidQuestion(value), touched, SAMPLE, value, None)
            self.check_error(InvalidQuestion(value), touched, SAMPLE, value, ("take edge", "w"))
            self.check_error(InvalidQuestion(value), quiet_edges, SAMPLE, value)
            self.check_error(InvalidQuestion(value), needed_edges, SAMPLE, value)
        for asked in (("parts",), ("way", "z", "y")):
            for value in ODD_VALUES + [["take edge", "x"], ("take edge",), ("set room", "w", -1)]:
                self.check_error(InvalidEdit(value), touched, SAMPLE, asked, value)
            self.check_error(UnknownEdge("w"), touched, SAMPLE, asked, ("take edge", "w"))
            self.check_error(UnknownNode("z"), touched, SAMPLE, asked, ("take node", "z"))
            self.check_error(Taken("b"), touched, SAMPLE, asked, ("add node", "b"))


class TestQuietEdges(WardCase):
    def check_edges(self, graph, asked):
        claim = answer(graph, asked)
        quiet = [edge[0] for edge in graph.edges if answer(graph.without_edge(edge[0]), asked) == claim]
        self.assertEqual(quiet_edges(graph, asked), tuple(quiet))
        needed = tuple(edge[0] for edge in graph.edges if edge[0] not in quiet)
        self.assertEqual(needed_edges(graph, asked), needed)
        return bool(quiet), bool(needed)

    def test_small_graphs(self):
        found = []
        for seed in range(80):
            graph = random_graph(seed, most_nodes=4, most_edges=7)
            for asked in few_questions(graph):
                found.append((asked[0], *self.check_edges(graph, asked)))
        for kind in {kind for kind, _, _ in found}:
            self.assertTrue(any(asked == kind and quiet for asked, quiet, _ in found), kind)
            self.assertTrue(any(asked == kind and needed for asked, _, needed in found) or kind == "plane", kind)

    def test_samples(self):
        for graph in GRAPHS:
            for asked in questions(graph, (1,)):
                self.check_edges(graph, asked)
        self.assertEqual(needed_edges(GRAPHS[3], ("plane",)), tuple("abcdefghij"))
        self.assertEqual((quiet_edges(GRAPHS[4], ("plane",)), needed_edges(GRAPHS[4], ("plane",))), ((), ()))

    def test_strangers(self):
        self.assertEqual(quiet_edges(SAMPLE, ("way", "a", "z")), ("x", "y", "a"))
        self.assertEqual(needed_edges(SAMPLE, ("way", "a", "z")), ())

    def test_full_graphs(self):
        for graph in full_graphs()[::5]:
            for kind in ("way", "cheapest", "perfect", "plane", "hole", "cover", "least cut"):
                self.check_edges(graph, question(kind, ("a", "h"), 30))


if __name__ == "__main__":
    unittest.main()
