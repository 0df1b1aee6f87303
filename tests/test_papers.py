"""Points 47 and 48: papers looked at, their ends, wards relived."""

import random
import time
import unittest

from bridgeward.claims import answer_of, claim_holds
from bridgeward.errors import InvalidText, NothingToUndo, WardError
from bridgeward.graphs import Graph
from bridgeward.papers import paper_end, paper_holds, relived
from bridgeward.told import told, untold
from bridgeward.wards import Ward, same_state
from histories import do, some_deeds, some_edit, wrong_place
from questions import QUESTIONS, question
from samples import WardCase, full_graphs, random_graph

GRAPH = Graph(("a", "b", "c"), (("x", "a", "b", 2, 3), ("y", "b", "c", -1, 1), ("z", "a", "c", 4, 2)))
FIRST = 'graph (("a","b","c"),(("x","a","b",2,3),("y","b","c",-1,1),("z","a","c",4,2)))'
# A paper with a deed of each kind; the answers stand behind those that have some.
LINES = [
    FIRST,
    'watch ("way","a","c")', 'claim ("distance","a","c",1)', 'warrant (("x","y"),(0,2,1))',
    'watch ("parts",)', 'claim ("parts",(("a","b","c"),))', 'warrant (("x","y"),)',
    'edit ("take edge","y")', 'claim ("distance","a","c",4)', 'warrant (("z",),(0,2,4))',
    'claim ("parts",(("a","b","c"),))', 'warrant (("x","z"),)',
    "undo", 'claim ("distance","a","c",1)', 'warrant (("x","y"),(0,2,1))',
    'claim ("parts",(("a","b","c"),))', 'warrant (("y","z"),)',
    'leave ("way","a","c")',
    "redo", 'claim ("parts",(("a","b","c"),))', 'warrant (("x","z"),)',
    'leave ("parts",)',
    'edit ("set price","z",0)',
    'watch ("way","c","d")', 'claim ("no node","d")', "warrant ()",
]


def text_of(lines):
    return "\n".join(lines)


def place_of(lines, at):
    """The place of the first character of this line."""
    return sum(len(line) + 1 for line in lines[:at])


def some_ward(seed, many=25):
    graph = random_graph(seed, most_nodes=4, most_edges=6)
    ward = Ward(graph)
    for deed in some_deeds(seed, graph, many, most_watched=4):
        do(ward, deed)
    return ward


class PaperCase(WardCase):
    def check_right(self, text):
        self.assertIs(paper_holds(text), True, text)
        self.assertIs(wrong_place(text), None)
        ward = relived(text)
        self.assertEqual(ward.paper(), text)
        self.assertEqual(paper_end(text), (ward.graph, ward.watched))
        return ward

    def check_wrong(self, text, at):
        self.assertIs(paper_holds(text), False, text)
        self.check_error(InvalidText(text, at), paper_end, text)
        self.check_error(InvalidText(text, at), relived, text)
        self.assertEqual(wrong_place(text), at)

    def check_text(self, text):
        at = wrong_place(text)
        if at is None:
            self.check_right(text)
        else:
            self.check_wrong(text, at)


class TestRightPapers(PaperCase):
    def test_the_sample(self):
        ward = self.check_right(text_of(LINES))
        graph = GRAPH.without_edge("y").with_price("z", 0)
        self.assertEqual(paper_end(text_of(LINES)), (graph, (("way", "c", "d"),)))
        self.assertEqual(ward.done(), (("take edge", "y"), ("set price", "z", 0)))

    def test_papers_of_wards(self):
        for seed in range(60):
            ward = some_ward(seed)
            other = self.check_right(ward.paper())
            self.assertEqual(paper_end(ward.paper()), (ward.graph, ward.watched))
            self.assertIs(same_state(ward, other), True)
            for asked in ward.watched:
                self.assertEqual((other.claim(asked), other.warrant(asked)), (ward.claim(asked), ward.warrant(asked)))

    def test_all_kinds_of_questions(self):
        for graph in [GRAPH, Graph((), ())] + full_graphs()[:4]:
            ward = Ward(graph)
            names = (graph.nodes or ("s",))[0], (graph.nodes or ("t",))[-1] if len(graph) > 1 else "q"
            for kind in QUESTIONS:
                ward.watch(question(kind, names, 2))
            do(ward, ("edit", ("add node", "n")))
            do(ward, ("undo", None))
            self.check_right(ward.paper())

    def test_short_ones(self):
        self.check_right("graph ((),())")
        self.check_right(FIRST)
        for at in (1, 4, 7, 12, 17, 18, 21, 22, 23):
            self.check_right(text_of(LINES[:at]))

    def test_a_graph_of_any_size(self):
        nodes = tuple("n" + letter for letter in "abcdefghijklmnopqrstuvwxyz")
        edges = tuple((name, name, name, 10 ** 11, 10 ** 11) for name in nodes)
        text = "graph " + told((nodes, edges)) + '\nedit ("take node","nc")\nundo'
        self.assertEqual(paper_end(text), (Graph(nodes, edges), ()))

    def test_other_warrants_that_hold(self):
        way, rows = ("way", "a", "c"), ("parts",)
        for at, end, asked, line in (
            (3, 4, way, 'warrant (("x","y"),(5,7,6))'), (3, 4, way, 'warrant (("x","y"),(-1,1,0))'),
            (6, 7, rows, 'warrant (("x","z"),)'), (6, 7, rows, 'warrant (("y","z"),)'), (9, 12, way, 'warrant (("z",),(0,1,4))'),
            (14, 17, way, 'warrant (("x","y"),(1,3,2))'), (16, 17, rows, 'warrant (("x","y"),)'),
        ):
            lines = LINES[:at] + [line] + LINES[at + 1:]
            self.check_right(text_of(lines))
            self.assertEqual(relived(text_of(lines[:end])).warrant(asked), untold(line.partition(" ")[2]))


class TestWrongPapers(PaperCase):
    def test_each_line_removed(self):
        for at in range(len(LINES)):
            self.check_text(text_of(LINES[:at] + LINES[at + 1:]))
        self.check_wrong(text_of(LINES[1:]), 0)
        self.check_wrong(text_of(LINES[:2] + LINES[3:]), place_of(LINES, 2))
        # Without the second line the third one is no deed.
        self.check_wrong(text_of(LINES[:1] + LINES[2:]), place_of(LINES, 1))
        self.check_wrong(text_of(LINES[:12] + LINES[13:]), place_of(LINES, 12))

    def test_each_line_repeated(self):
        for at in range(len(LINES)):
            self.check_text(text_of(LINES[:at + 1] + LINES[at:]))
        self.check_wrong(text_of(LINES[:1] + LINES), place_of(LINES, 1))
        # What is watched is not watched again, what is left is not left again.
        self.check_wrong(text_of(LINES[:4] + LINES[1:]), place_of(LINES, 4))
        self.check_wrong(text_of(LINES[:18] + LINES[17:]), place_of(LINES, 18))
        # What is undone and done again cannot be so once more.
        self.check_wrong(text_of(LINES[:17] + ["undo"]), place_of(LINES, 17))
        self.check_wrong(text_of(LINES[:21] + ["redo"]), place_of(LINES, 21))

    def test_lines_exchanged(self):
        for one in range(len(LINES)):
            for other in range(one + 1, len(LINES)):
                lines = list(LINES)
                lines[one], lines[other] = LINES[other], LINES[one]
                self.check_text(text_of(lines))

    def test_lines_inserted(self):
        for at in range(len(LINES) + 1):
            for line in ("undo", "redo", "", 'watch ("tour",)', 'leave ("tour",)', 'edit ("add node","q")', "warrant ()", "claim ()"):
                self.check_text(text_of(LINES[:at] + [line] + LINES[at:]))

    def test_texts_cut_off(self):
        text = text_of(LINES)
        for at in range(len(text)):
            self.check_text(text[:at])
        for at in range(1, len(LINES)):
            short = text_of(LINES[:at])
            lacking = at not in (1, 4, 7, 12, 17, 18, 21, 22, 23)
            self.assertIs(paper_holds(short), not lacking)
            if lacking:
                self.check_wrong(short, len(short))
        self.check_wrong(text_of(LINES[:-1]), len(text_of(LINES[:-1])))
        self.check_wrong(text_of(LINES[:-2]), len(text_of(LINES[:-2])))

    def test_a_line_feed_more(self):
        for at in (1, 4, 7, 12, 17, 18, 26):
            text = text_of(LINES[:at])
            self.check_wrong(text + "\n", len(text) + 1)
            self.check_wrong("\n" + text, 0)
            self.check_wrong(text.replace("\n", "\n\n", 1) + "\n\n", place_of(LINES, 1) if at > 1 else len(text) + 1)
            self.check_wrong(text.replace("\n", "\r\n") + "\r\n", 0)
        # Where a line is lacking an empty one does not stand for it.
        self.check_wrong(text_of(LINES[:2]) + "\n", len(text_of(LINES[:2])) + 1)
        self.check_wrong(text_of(LINES[:3]) + "\n", len(text_of(LINES[:3])) + 1)

    def test_first_lines(self):
        for line in (
            "", "graph", "graph ", "graph ()", "graph ((),)", "graph ((),(),())", "graph (none,())", "graph ((),none)", "graph none",
            "graph  ((),())", "graph ((),()) ", " graph ((),())", "Graph ((),())", "graph((),())", "nodes", "nodes a", "undo",
            'graph (("a"),())', 'graph (("a","a"),())', 'graph (("a b",),())', 'graph (("abcdefghi",),())', "graph ((1,),())",
            'graph (("a",),(("x","a","b",0,0),))', 'graph (("a",),(("x","a","a",0,-1),))', 'graph (("a",),(("x","a","a",0),))',
            'graph (("a",),(("x","a","a",0,0),("x","a","a",0,0)))', 'graph (("a",),("x","a","a",0,0))', 'graph ("a",())',
            'graph (("a",),(("x","a","a",none,0),))', 'graph (("a", "b"),())', "claim ()", "warrant ()", "graph 0", 'watch ("tour",)',
        ):
            self.check_wrong(line, 0)
            self.check_wrong(line + "\n" + "undo", 0)
            self.check_wrong(line + "\n" + text_of(LINES), 0)

    def test_deeds_of_no_form(self):
        for line in (
            "undo ", " undo", "Undo", "undo ()", "redo ()", "redo 1", "undone", "edit", "edit ", "edit ()", "edit none", 'edit "undo"',
            'edit ("undo",)', 'edit ("take edge","w")', 'edit ("take edge", "x")', 'edit ("add node","a")', 'edit ("add node","A")',
            'edit ("set price","x",none)', 'edit ("set room","x",-1)', 'edit ("set room","x",01)', 'edit ("add edge",("w","a","q",0,0))',
            'edit  ("take edge","x")', 'edit("take edge","x")', 'Edit ("take edge","x")', "watch", "watch ()", 'watch ("way","a")',
            'watch ("flow","a","a")', 'watch ("distance","a","c")', 'watch "tour"', "watch none", 'watch ("way","a","c")', 'watch ("tour",) ',
            'leave ("tour",)', "leave", "leave ()", "leave none", 'leave ("way","a","c"', 'leave ("way","a","c") ', "leave 5", "done", "",
            'claim ("tour",)', "warrant ()", FIRST, 'watch ("parts")', 'undo\u00a0', '\u00fcndo',
        ):
            self.check_wrong(text_of(LINES[:4] + [line]), place_of(LINES, 4))
            self.check_wrong(text_of(LINES[:4] + [line] + LINES[4:]), place_of(LINES, 4))

    def test_another_claim(self):
        for line in (
            'claim ("distance","a","c",2)', 'claim ("no way","a","c")', 'claim ("distance","a","b",2)', 'claim ("parts",(("a","b","c"),))',
            'claim ("distance","a","c",1) ', 'claim  ("distance","a","c",1)', "claim", "claim ", 'Claim ("distance","a","c",1)', "claim ()",
            'warrant (("x","y"),(0,2,1))', "undo", "", 'claim ("distance","a","c",01)', 'claim ("distance", "a","c",1)',
        ):
            self.check_wrong(text_of(LINES[:2] + [line] + LINES[3:]), place_of(LINES, 2))
            self.check_wrong(text_of(LINES[:2] + [line]), place_of(LINES, 2))

    def test_a_warrant_that_does_not_hold(self):
        for line in (
            'warrant (("x","y"),(0,2,2))', 'warrant (("z",),(0,2,1))', "warrant ()", "warrant none", 'warrant (("x","y"),(0,2,1)) ', "warrant",
            'warrant  (("x","y"),(0,2,1))', 'warrant (("x","y"),(0,2,01))', 'claim ("distance","a","c",1)', "undo", "", "warrant ", 'warrant "x"',
            'Warrant (("x","y"),(0,2,1))', 'warrant(("x","y"),(0,2,1))', 'warrant (("x","y"),(0,2,1)', 'warrant (("x","y"),(0,2,1),)',
        ):
            self.check_wrong(text_of(LINES[:3] + [line] + LINES[4:]), place_of(LINES, 3))
            self.check_wrong(text_of(LINES[:3] + [line]), place_of(LINES, 3))
        # It held of the graph ahead of the edit only.
        self.check_wrong(text_of(LINES[:11] + [LINES[6]] + LINES[12:]), place_of(LINES, 11))
        # It holds of the claim of another watched question.
        self.check_wrong(text_of(LINES[:9] + [LINES[11]] + LINES[10:]), place_of(LINES, 9))

    def test_answers_in_another_order(self):
        lines = LINES[:8] + LINES[10:12] + LINES[8:10] + LINES[12:]
        self.check_wrong(text_of(lines), place_of(LINES, 8))
        self.check_wrong(text_of(LINES[:10] + LINES[12:]), place_of(LINES, 10))
        self.check_wrong(text_of(LINES[:8] + LINES[10:]), place_of(LINES, 8))
        self.check_wrong(text_of(LINES[:22] + LINES[19:21]), place_of(LINES, 22))

    def test_changed_papers_of_wards(self):
        dice = random.Random(6)
        for seed in range(12):
            lines = some_ward(seed).paper().split("\n")
            for _ in range(15):
                at, other = dice.randrange(len(lines)), dice.randrange(len(lines))
                self.check_text(text_of(lines[:at] + lines[at + 1:]))
                self.check_text(text_of(lines[:at] + [lines[other]] + lines[at:]))
                self.check_text(text_of(lines[:at] + [lines[other]] + lines[at + 1:]))
                text = text_of(lines)
                place = dice.randrange(len(text))
                self.check_text(text[:place] + dice.choice('0129abxy(),"\n -') + text[place + 1:])
                self.check_text(text[:place] + text[place + 1:])

    def test_other_strings(self):
        for text in ("", "\n", "paper", "nodes a b\nedge x a b 1 1", "\u00e9", "none", "()", "graph ((),())\x00", "\ngraph ((),())"):
            self.assertIs(paper_holds(text), False)
            self.check_wrong(text, 0)
        self.check_wrong("graph ((),())\n\u00e9", 14)


class TestRelived(PaperCase):
    def test_it_is_led_on_as_the_first_one(self):
        dice = random.Random(9)
        for seed in range(40):
            one = some_ward(seed)
            other = relived(one.paper())
            for _ in range(20):
                word = dice.choice(["undo", "redo", "edit", "edit", "watch"])
                value = some_edit(dice, one.graph) if word == "edit" else question(dice.choice(list(QUESTIONS)), ("a", "b"))
                found = do(one, (word, value)), do(other, (word, value))
                if isinstance(found[0], WardError):
                    self.assertEqual((type(found[0]), vars(found[0])), (type(found[1]), vars(found[1])))
                else:
                    self.assertEqual(found[0], found[1])
                self.assertEqual(one.paper(), other.paper())
            self.assertIs(same_state(one, other), True)

    def test_deeds_of_the_first_part_are_undone_and_done_again(self):
        ward = relived(text_of(LINES[:17]))
        self.check_error(NothingToUndo("undo"), ward.undo)
        self.assertEqual(ward.redo()[0], (("way", "a", "c"), "changed", ("distance", "a", "c", 4)))
        self.assertEqual(ward.graph, GRAPH.without_edge("y"))
        ward = relived(text_of(LINES))
        ward.undo()
        self.assertEqual(ward.graph, GRAPH.without_edge("y"))
        ward.undo()
        self.assertEqual((ward.graph, ward.done()), (GRAPH, ()))
        ward.redo()
        ward.redo()
        self.check_error(NothingToUndo("redo"), ward.redo)
        self.assertEqual(ward.done(), (("take edge", "y"), ("set price", "z", 0)))

    def test_warrants_are_those_of_the_paper(self):
        # One way and its marks, but not those that a ward would find or keep.
        lines = LINES[:3] + ['warrant (("x","y"),(5,7,6))', 'edit ("set price","z",2)', LINES[2], 'warrant (("x","y"),(7,9,8))']
        ward = relived(text_of(lines))
        self.assertEqual(ward.warrant(("way", "a", "c")), (("x", "y"), (7, 9, 8)))
        self.assertEqual(ward.paper(), text_of(lines))
        self.assertEqual(ward.undo(), ((("way", "a", "c"), "kept", ("distance", "a", "c", 1)),))
        self.assertEqual(ward.warrant(("way", "a", "c")), (("x", "y"), (7, 9, 8)))
        self.assertEqual(ward.paper(), text_of(lines + ["undo", LINES[2], 'warrant (("x","y"),(7,9,8))']))
        self.check_right(ward.paper())

    def test_two_of_one_paper(self):
        one, other = relived(text_of(LINES)), relived(text_of(LINES))
        one.undo()
        self.assertEqual(len(other.done()), 2)
        self.assertIs(same_state(one, other), False)

    def test_a_long_paper(self):
        graph = full_graphs()[1]
        ward = Ward(graph)
        for kind in list(QUESTIONS)[:20]:
            ward.watch(question(kind, ("a", "h"), 30))
        for at in range(20):
            ward.edit(("set price", graph.edges[at % 14][0], at))
        start = time.perf_counter()
        self.assertIs(paper_holds(ward.paper()), True)
        self.assertLess(time.perf_counter() - start, 20)
        other = relived(ward.paper())
        for asked in other.watched:
            self.assertEqual(other.claim(asked), answer_of(ward.graph, asked))
            self.assertIs(claim_holds(ward.graph, other.claim(asked), other.warrant(asked)), True)


if __name__ == "__main__":
    unittest.main()
