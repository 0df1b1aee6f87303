"""Points 44 to 46 and 48: wards, their reports and papers, equal states."""

import time
import unittest

from bridgeward.claims import answer_of, claim_holds, warrant_of
from bridgeward.edits import edited
from bridgeward.errors import (
    InvalidEdit, InvalidQuestion, NothingToUndo, NotWatched, Taken, UnknownEdge, UnknownNode, WardError,
)
from bridgeward.graphs import Graph
from bridgeward.told import told
from bridgeward.wards import Ward, same_state
from histories import do, some_deeds
from questions import QUESTIONS, question
from samples import ODD_VALUES, WardCase, full_graphs, random_graph

GRAPH = Graph(("a", "b", "c"), (("x", "a", "b", 2, 3), ("y", "b", "c", -1, 1), ("z", "a", "c", 4, 2)))
WAY = ("way", "a", "c")
FLOW = ("flow", "a", "c")


def led(graph, *deeds):
    """A ward of the graph, led through these deeds."""
    ward = Ward(graph)
    for word, *values in deeds:
        getattr(ward, word)(*values)
    return ward


def state(ward):
    """All that a ward tells of itself."""
    answers = [(ward.claim(asked), ward.warrant(asked)) for asked in ward.watched]
    return str(ward.graph), ward.watched, answers, ward.done(), ward.paper()


class TestWatch(WardCase):
    def test_new_wards(self):
        for graph in (GRAPH, Graph((), ())):
            ward = Ward(graph)
            self.assertEqual((ward.graph, ward.watched, ward.done()), (graph, (), ()))
            self.assertEqual(ward.paper(), "graph " + told((graph.nodes, graph.edges)))

    def test_answers(self):
        ward = Ward(GRAPH)
        for kind in QUESTIONS:
            asked = question(kind, ("a", "c"), 2)
            self.assertEqual(ward.watch(asked), answer_of(GRAPH, asked))
            self.assertEqual(ward.claim(asked), answer_of(GRAPH, asked))
            self.assertIs(claim_holds(GRAPH, ward.claim(asked), ward.warrant(asked)), True)
        self.assertEqual(ward.watched, tuple(question(kind, ("a", "c"), 2) for kind in QUESTIONS))
        self.assertIs(type(ward.watched), tuple)

    def test_strangers(self):
        ward = Ward(GRAPH)
        self.assertEqual(ward.watch(("way", "a", "d")), ("no node", "d"))
        self.assertEqual(ward.warrant(("way", "a", "d")), ())
        report = ward.edit(("add node", "d"))
        self.assertEqual(report, ((("way", "a", "d"), "changed", ("no way", "a", "d")),))
        self.assertIs(claim_holds(ward.graph, ("no way", "a", "d"), ward.warrant(("way", "a", "d"))), True)

    def test_leave_and_watch_again(self):
        ward = led(GRAPH, ("watch", WAY), ("watch", FLOW), ("watch", ("tour",)))
        self.assertIs(ward.leave(WAY), None)
        self.assertEqual(ward.watched, (FLOW, ("tour",)))
        self.check_error(NotWatched(WAY), ward.claim, WAY)
        self.check_error(NotWatched(WAY), ward.warrant, WAY)
        self.check_error(NotWatched(WAY), ward.leave, WAY)
        self.assertEqual(ward.watch(WAY), ("distance", "a", "c", 1))
        self.assertEqual(ward.watched, (FLOW, ("tour",), WAY))

    def test_what_is_watched_already(self):
        ward = led(GRAPH, ("watch", WAY), ("watch", FLOW), ("edit", ("set price", "z", 0)))
        before = state(ward)
        self.assertEqual(ward.watch(WAY), ("distance", "a", "c", 0))
        self.assertEqual(state(ward), before)

    def test_a_warrant_that_was_kept_is_not_made_anew(self):
        ward = led(GRAPH, ("watch", WAY))
        first = ward.warrant(WAY)
        self.assertEqual(ward.edit(("set price", "z", 2)), ((WAY, "kept", ("distance", "a", "c", 1)),))
        self.assertEqual(ward.watch(WAY), ("distance", "a", "c", 1))
        self.assertEqual(ward.warrant(WAY), first)
        ward.leave(WAY)
        ward.watch(WAY)
        self.assertEqual(ward.warrant(WAY), warrant_of(ward.graph, WAY))

    def test_errors(self):
        ward = led(GRAPH, ("watch", ("cheapest", "a", "c", 1)), ("watch", ("parts",)))
        before = state(ward)
        wrong = ODD_VALUES + [("way", "a"), ["parts"], ("parts", ()), ("flow", "a", "a"), ("cheapest", "a", "c", True), ("no way", "a", "c")]
        for value in wrong:
            self.check_error(InvalidQuestion(value), ward.watch, value)
        for value in wrong + [("way", "a", "c"), ("cheapest", "a", "c", 2), ("hole",)]:
            self.check_error(NotWatched(value), ward.leave, value)
            self.check_error(NotWatched(value), ward.claim, value)
            self.check_error(NotWatched(value), ward.warrant, value)
        self.assertEqual(state(ward), before)

    def test_two_wards_of_one_graph(self):
        one, other = led(GRAPH, ("watch", WAY)), Ward(GRAPH)
        one.edit(("take edge", "y"))
        self.assertEqual((other.graph, other.watched, other.done()), (GRAPH, (), ()))
        other.watch(WAY)
        other.edit(("set price", "x", 9))
        self.assertEqual((one.claim(WAY), other.claim(WAY)), (("distance", "a", "c", 4), ("distance", "a", "c", 4)))
        self.assertEqual((one.done(), other.done()), ((("take edge", "y"),), (("set price", "x", 9),)))
        self.assertEqual(GRAPH.edges[0], ("x", "a", "b", 2, 3))


class TestReports(WardCase):
    def check_report(self, ward, before, report):
        """The report tells what became of each answer, which is that of the graph made anew."""
        graph = Graph(ward.graph.nodes, ward.graph.edges)
        self.assertEqual([asked for asked, _, _ in report], list(ward.watched))
        words = []
        for asked, word, claim in report:
            old_claim, old_warrant = before[asked]
            self.assertEqual(claim, answer_of(graph, asked))
            self.assertEqual(ward.claim(asked), claim)
            self.assertIs(claim_holds(graph, claim, ward.warrant(asked)), True)
            due = "kept" if claim_holds(graph, claim, old_warrant) else "renewed"
            self.assertEqual(word, due if claim == old_claim else "changed")
            if word == "kept":
                self.assertEqual(ward.warrant(asked), old_warrant)
            words.append(word)
        return words

    def check_row(self, graph, deeds):
        """The ward tells of each deed what is due; graphs and edits are led along by hand."""
        ward = Ward(graph)
        done, undone, words = [], [], []
        for word, value in deeds:
            before = {asked: (ward.claim(asked), ward.warrant(asked)) for asked in ward.watched}
            past = state(ward)
            edit = value(ward.graph) if word == "edit" else value
            found = do(ward, (word, edit))
            if isinstance(found, WardError):
                self.assertEqual(state(ward), past)
                self.check_refused(ward, word, edit, done, undone, found)
                continue
            if word in ("watch", "leave"):
                continue
            if word == "edit":
                done.append((edit, graph))
                graph, undone = edited(graph, edit), []
            elif word == "undo":
                edit, previous = done.pop()
                undone.append((edit, graph))
                graph = previous
            else:
                edit, following = undone.pop()
                done.append((edit, graph))
                graph = following
            self.assertEqual(ward.graph, graph)
            self.assertEqual(ward.done(), tuple(edit for edit, _ in done))
            words += self.check_report(ward, before, found)
        return words

    def check_refused(self, ward, word, value, done, undone, error):
        """The error is the one that is due."""
        if word == "undo":
            self.assertEqual((type(error), error.deed, done), (NothingToUndo, "undo", []))
        elif word == "redo":
            self.assertEqual((type(error), error.deed, undone), (NothingToUndo, "redo", []))
        elif word == "edit":
            self.check_error(error, edited, ward.graph, value)
        else:
            self.assertEqual((type(error), word, value in ward.watched), (NotWatched, "leave", False))

    def test_random_rows(self):
        words = []
        for seed in range(80):
            graph = random_graph(seed, most_nodes=4, most_edges=6)
            words += self.check_row(graph, some_deeds(seed, graph, 40))
        for word in ("kept", "renewed", "changed"):
            self.assertGreater(words.count(word), 300)

    def test_one_kind_alone(self):
        for seed, kind in enumerate(QUESTIONS):
            graph = random_graph(seed + 7, most_nodes=4, most_edges=7)
            words = self.check_row(graph, some_deeds(seed, graph, 120, kinds=[kind]))
            self.assertIn("kept", words, kind)

    def test_kept_and_renewed(self):
        ward = led(GRAPH, ("watch", WAY), ("watch", ("hole",)))
        claims = (("distance", "a", "c", 1), ("no hole",))
        # The marks of three nodes say nothing of a fourth one; neither does a row of three.
        self.assertEqual(ward.edit(("add node", "d")), ((WAY, "renewed", claims[0]), (("hole",), "renewed", claims[1])))
        self.assertEqual(ward.edit(("set room", "x", 0)), ((WAY, "kept", claims[0]), (("hole",), "kept", claims[1])))
        report = ward.edit(("set price", "x", 7))
        self.assertEqual(report, ((WAY, "changed", ("distance", "a", "c", 4)), (("hole",), "kept", claims[1])))

    def test_the_warrant_of_before_does_not_come_back(self):
        graph = Graph(("a", "b"), (("x", "a", "b", 1, 0), ("y", "a", "b", 1, 0)))
        ward = led(graph, ("watch", ("way", "a", "b")))
        first = ward.warrant(("way", "a", "b"))
        gone, other = first[0][0], "y" if first[0][0] == "x" else "x"
        self.assertEqual(ward.edit(("take edge", gone)), ((("way", "a", "b"), "renewed", ("distance", "a", "b", 1)),))
        second = ward.warrant(("way", "a", "b"))
        self.assertEqual(second[0], (other,))
        self.assertEqual(ward.undo(), ((("way", "a", "b"), "kept", ("distance", "a", "b", 1)),))
        self.assertEqual(ward.warrant(("way", "a", "b")), second)
        self.assertEqual(ward.redo(), ((("way", "a", "b"), "kept", ("distance", "a", "b", 1)),))

    def test_edits_that_leave_the_graph_as_it_is(self):
        ward = led(GRAPH, ("watch", FLOW))
        self.assertEqual(ward.edit(("set room", "x", 3)), ((FLOW, "kept", ("flow", "a", "c", 3)),))
        self.assertEqual(ward.done(), (("set room", "x", 3),))
        self.assertEqual(ward.undo(), ((FLOW, "kept", ("flow", "a", "c", 3)),))
        self.assertEqual(ward.redo(), ((FLOW, "kept", ("flow", "a", "c", 3)),))
        self.assertEqual(ward.paper().count("\n"), 3 + 3 * 3)

    def test_nothing_watched(self):
        ward = Ward(GRAPH)
        self.assertEqual(ward.edit(("take node", "a")), ())
        self.assertEqual(ward.undo(), ())
        self.assertEqual(ward.redo(), ())
        self.assertEqual(led(GRAPH, ("watch", WAY), ("leave", WAY)).edit(("take node", "a")), ())

    def test_nothing_to_undo(self):
        ward = led(GRAPH, ("watch", WAY))
        for _ in range(2):
            self.check_error(NothingToUndo("undo"), ward.undo)
            self.check_error(NothingToUndo("redo"), ward.redo)
        ward.edit(("take edge", "x"))
        self.check_error(NothingToUndo("redo"), ward.redo)
        ward.undo()
        self.check_error(NothingToUndo("undo"), ward.undo)
        ward.redo()
        self.check_error(NothingToUndo("redo"), ward.redo)
        self.assertEqual(ward.graph, GRAPH.without_edge("x"))

    def test_an_edit_ends_what_can_be_done_again(self):
        ward = led(GRAPH, ("edit", ("take edge", "x")), ("edit", ("take edge", "y")), ("edit", ("add node", "d")))
        for _ in range(3):
            ward.undo()
        self.assertEqual((ward.graph, ward.done()), (GRAPH, ()))
        ward.redo()
        self.assertEqual((ward.graph, ward.done()), (GRAPH.without_edge("x"), (("take edge", "x"),)))
        ward.edit(("set room", "y", 1))
        self.check_error(NothingToUndo("redo"), ward.redo)
        self.assertEqual(ward.done(), (("take edge", "x"), ("set room", "y", 1)))
        ward.undo()
        ward.undo()
        self.assertEqual(ward.graph, GRAPH)
        ward.redo()
        ward.redo()
        self.assertEqual(ward.done(), (("take edge", "x"), ("set room", "y", 1)))

    def test_a_refused_edit_changes_nothing(self):
        ward = led(GRAPH, ("watch", WAY), ("edit", ("take edge", "x")), ("edit", ("add node", "d")), ("undo",))
        before = state(ward)
        for value in ODD_VALUES + [["take edge", "y"], ("take edge", "Y"), ("undo",), ("set room", "y", -1)]:
            self.check_error(InvalidEdit(value), ward.edit, value)
        self.check_error(UnknownEdge("x"), ward.edit, ("take edge", "x"))
        self.check_error(UnknownNode("d"), ward.edit, ("take node", "d"))
        self.check_error(Taken("a"), ward.edit, ("add node", "a"))
        self.check_error(UnknownNode("d"), ward.edit, ("add edge", ("y", "a", "d", 0, 0)))
        self.assertEqual(state(ward), before)
        ward.redo()
        self.assertEqual(ward.graph.nodes, ("a", "b", "c", "d"))

    def test_watching_and_leaving_are_not_undone(self):
        ward = led(GRAPH, ("watch", WAY), ("edit", ("take edge", "z")), ("leave", WAY), ("watch", FLOW))
        self.assertEqual(ward.undo(), ((FLOW, "changed", ("flow", "a", "c", 3)),))
        self.assertEqual(ward.watched, (FLOW,))
        ward.watch(WAY)
        self.assertEqual(len(ward.redo()), 2)

    def test_a_full_ward(self):
        # How long it takes; the limit only shows what would be far too slow.
        graph = [graph for graph in full_graphs() if answer_of(graph, ("plane",)) == ("plane",)][0]
        ward = Ward(graph)
        for kind in list(QUESTIONS)[:20]:
            ward.watch(question(kind, ("a", "h"), 30))
        start = time.perf_counter()
        labels = [edge[0] for edge in graph.edges]
        for at in range(60):
            label = labels[at % 14]
            ward.edit(("set price", label, at - 30))
            ward.edit(("set room", label, at % 21))
            ward.undo()
        self.assertEqual(len(ward.done()), 60)
        self.assertLess(time.perf_counter() - start, 60)
        for asked in ward.watched:
            self.assertEqual(ward.claim(asked), answer_of(ward.graph, asked))


class TestPaper(WardCase):
    def test_each_kind_of_deed(self):
        ward = Ward(GRAPH)
        lines = ['graph (("a","b","c"),(("x","a","b",2,3),("y","b","c",-1,1),("z","a","c",4,2)))']
        ward.watch(("tour",))
        lines += ['watch ("tour",)', 'claim ("tour",)', "warrant " + told(ward.warrant(("tour",)))]
        ward.watch(WAY)
        lines += ['watch ("way","a","c")', 'claim ("distance","a","c",1)', "warrant " + told(ward.warrant(WAY))]
        ward.edit(("add edge", ("w", "b", "a", -2, 0)))
        lines += ['edit ("add edge",("w","b","a",-2,0))', 'claim ("no tour",)', "warrant " + told(ward.warrant(("tour",)))]
        lines += ['claim ("distance","a","c",1)', "warrant " + told(ward.warrant(WAY))]
        ward.leave(("tour",))
        lines += ['leave ("tour",)']
        ward.undo()
        lines += ["undo", 'claim ("distance","a","c",1)', "warrant " + told(ward.warrant(WAY))]
        ward.redo()
        lines += ["redo", 'claim ("distance","a","c",1)', "warrant " + told(ward.warrant(WAY))]
        ward.leave(WAY)
        ward.edit(("set price", "w", 0))
        lines += ['leave ("way","a","c")', 'edit ("set price","w",0)']
        self.assertEqual(ward.paper(), "\n".join(lines))
        self.assertEqual(ward.paper(), ward.paper())

    def test_what_does_not_stand_in_it(self):
        ward = led(GRAPH, ("watch", WAY), ("edit", ("take edge", "z")))
        before = ward.paper()
        ward.watch(WAY)
        for deed in (
            ("watch", ("way",)), ("leave", FLOW), ("edit", ("take edge", "z")), ("edit", None), ("redo", None), ("claim", FLOW),
            ("claim", WAY), ("warrant", WAY), ("warrant", FLOW),
        ):
            do(ward, deed)
        self.assertEqual(ward.paper(), before)
        ward.undo()
        self.assertNotEqual(ward.paper(), before)
        before = ward.paper()
        do(ward, ("undo", None))
        self.assertEqual(ward.paper(), before)

    def test_lines_of_random_rows(self):
        for seed in range(30):
            graph = random_graph(seed, most_nodes=4, most_edges=6)
            ward = Ward(graph)
            lines = ["graph " + told((graph.nodes, graph.edges))]
            for word, value in some_deeds(seed, graph, 25):
                value = value(ward.graph) if word == "edit" else value
                repeated = word == "watch" and value in ward.watched
                if isinstance(do(ward, (word, value)), WardError) or repeated:
                    continue
                lines.append(word if value is None else word + " " + told(value))
                for asked in [value] if word == "watch" else [] if word == "leave" else ward.watched:
                    lines += ["claim " + told(ward.claim(asked)), "warrant " + told(ward.warrant(asked))]
            self.assertEqual(ward.paper().split("\n"), lines)


class TestSameState(WardCase):
    def check_same(self, one, other, due):
        self.assertIs(same_state(one, other), due)
        self.assertIs(same_state(other, one), due)
        self.assertIs(same_state(one, one), True)

    def test_equal_ones(self):
        self.check_same(Ward(GRAPH), Ward(Graph(list(GRAPH.nodes), list(GRAPH.edges))), True)
        deeds = [("watch", WAY), ("edit", ("take edge", "z")), ("watch", ("tour",))]
        self.check_same(led(GRAPH, *deeds), led(GRAPH, *deeds), True)
        # What can be done again and how the watched questions came do not count.
        self.check_same(led(GRAPH, ("edit", ("take edge", "z")), ("undo",)), Ward(GRAPH), True)
        self.check_same(led(GRAPH, ("watch", FLOW), ("watch", WAY), ("leave", FLOW)), led(GRAPH, ("watch", WAY)), True)

    def test_other_warrants(self):
        graph = Graph(("a", "b"), (("x", "a", "b", 1, 0), ("y", "a", "b", 1, 0)))
        one, other = [led(graph, ("watch", ("way", "a", "b"))) for _ in range(2)]
        one.edit(("take edge", one.warrant(("way", "a", "b"))[0][0]))
        one.undo()
        self.assertNotEqual(one.warrant(("way", "a", "b")), other.warrant(("way", "a", "b")))
        self.check_same(one, other, True)

    def test_one_thing_unlike(self):
        deeds = [("watch", WAY), ("watch", FLOW), ("edit", ("set price", "z", 3)), ("edit", ("set price", "z", 4))]
        one = led(GRAPH, *deeds)
        self.check_same(one, led(GRAPH, *deeds), True)
        self.check_same(one, led(GRAPH, *deeds[1:]), False)
        self.check_same(one, led(GRAPH, deeds[1], deeds[0], *deeds[2:]), False)
        self.check_same(one, led(GRAPH, *deeds, ("watch", ("tour",))), False)
        # Equal graphs by other edits.
        self.check_same(one, led(GRAPH, *deeds[:2], deeds[3]), False)
        self.check_same(one, led(GRAPH, *deeds[:2]), False)
        self.check_same(one, led(GRAPH, *deeds[:2], ("edit", ("set price", "z", 5)), deeds[3]), False)
        # Equal edits of other graphs.
        self.check_same(one, led(GRAPH.with_node("d"), *deeds), False)
        self.check_same(one, led(GRAPH.with_room("x", 4), *deeds), False)
        self.check_same(one, led(Graph(("b", "a", "c"), GRAPH.edges), *deeds), False)
        self.check_same(one, led(Graph(GRAPH.nodes, GRAPH.edges[::-1]), *deeds), False)
        self.check_same(Ward(GRAPH), Ward(GRAPH.with_price("x", 3)), False)


if __name__ == "__main__":
    unittest.main()
