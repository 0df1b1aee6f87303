"""Point 31: least cuts and cut trees, their claims and warrants."""

import itertools
import unittest

import slow
from bridgeward.claims import claim_holds
from bridgeward.cuts import cut_tree, cut_tree_holds, cut_tree_warrant, least_cut
from bridgeward.errors import Refused, Undefined, UnknownNode
from bridgeward.graphs import Graph
from samples import NO_NAMES, ODD_VALUES, WardCase, full_graphs, random_graph, unlike_pairs_of

# A triangle a b c with one edge twice and a loop, d behind c, room 0 between d and e.
SAMPLE = Graph(
    ("c", "a", "b", "d", "e"),
    (
        ("x", "a", "b", 0, 3), ("y", "c", "b", 0, 2), ("z", "a", "c", 0, 1), ("w", "c", "a", 0, 1),
        ("l", "a", "a", 0, 9), ("v", "d", "c", 0, 4), ("u", "d", "e", 0, 0),
    ),
)
ROWS = (("c", "a", 4), ("c", "d", 4), ("a", "b", 5), ("d", "e", 0))
CLAIM = ("cut tree", ROWS)
WARRANT = (
    (-2, 2, -1, 1, 0, 0, 0), (0, 0, 0, 0, 0, -4, 0), (3, 2, 1, -1, 0, 0, 0), (0, 0, 0, 0, 0, 0, 0),
)
# One row alone: two nodes, of which the pairs leave no choice.
TWO = Graph(("a", "b"), (("x", "a", "b", 0, 2), ("y", "b", "a", 0, 3)))
PAIR = ("cut tree", (("a", "b", 5),))


def replaced(value, at, new):
    """The tuple with another member at this place."""
    return value[:at] + (new,) + value[at + 1:]


class TestLeastCut(WardCase):
    def test_random_graphs(self):
        for seed in range(400):
            graph = random_graph(seed, most_nodes=6, most_edges=9)
            for a, b in unlike_pairs_of(graph):
                self.assertEqual(least_cut(graph, a, b), slow.least_cut(graph, a, b))

    def test_sample(self):
        found = {pair: least_cut(SAMPLE, *pair) for pair in itertools.combinations("abcde", 2)}
        due = {("a", "b"): 5, ("a", "c"): 4, ("a", "d"): 4, ("b", "c"): 4, ("b", "d"): 4, ("c", "d"): 4}
        self.assertEqual({pair: room for pair, room in found.items() if room}, due)

    def test_full_graphs(self):
        for graph in full_graphs():
            for a, b in unlike_pairs_of(graph):
                self.assertEqual(least_cut(graph, a, b), slow.least_cut(graph, a, b))

    def test_great_rooms(self):
        edges = [(label, *"abab"[at % 2:at % 2 + 2], 0, 20) for at, label in enumerate("pqrstuvwxyzabc")]
        self.assertEqual(least_cut(Graph(("a", "b"), edges), "b", "a"), 280)

    def test_errors(self):
        for name in NO_NAMES + ["z", "x"]:
            self.check_error(UnknownNode(name), least_cut, SAMPLE, name, "b")
            self.check_error(UnknownNode(name), least_cut, SAMPLE, "b", name)
            self.check_error(UnknownNode(name), least_cut, SAMPLE, name, None)
        for name in SAMPLE.nodes:
            self.check_error(Undefined("cut"), least_cut, SAMPLE, name, name)


class TestCutTree(WardCase):
    looker = cut_tree_holds

    def check_tree(self, graph):
        """The rows have the form that the claim tells, and their rooms are as it tells."""
        rows = cut_tree(graph)
        self.assertEqual(cut_tree(Graph(list(graph.nodes), list(graph.edges))), rows)
        places = [(graph.place(a), graph.place(b)) for a, b, _ in rows]
        self.assertEqual(places, sorted(places))
        self.assertTrue(all(a < b for a, b in places))
        self.assertEqual(len(rows), len(graph) - 1)
        edges = [("x", a, b) for a, b, _ in rows]
        self.assertEqual(len(slow.joined_sets(graph.nodes, edges)), 1)
        for at, (a, b, w) in enumerate(rows):
            self.assertEqual(w, slow.least_cut(graph, a, b))
            two = slow.joined_sets(graph.nodes, edges[:at] + edges[at + 1:])
            self.assertEqual(slow.room_across(graph, two[0]), w)
        warrant = cut_tree_warrant(graph, rows)
        self.assertEqual(cut_tree_warrant(graph, rows), warrant)
        self.check_yes(graph, ("cut tree", rows), warrant)
        self.check_small_integers((rows, warrant))

    def test_random_graphs(self):
        for seed in range(400):
            self.check_tree(random_graph(seed, most_nodes=6, most_edges=9))

    def test_graphs_of_many_edges(self):
        for seed in range(150):
            self.check_tree(random_graph(seed, most_nodes=8, most_edges=14, most_room=4))

    def test_full_graphs(self):
        for graph in full_graphs():
            self.check_tree(graph)

    def test_sample(self):
        self.check_tree(SAMPLE)
        self.check_yes(SAMPLE, CLAIM, WARRANT, cut_tree_warrant(SAMPLE, ROWS))

    def test_one_node(self):
        for graph in (Graph(("a",), ()), Graph(("a",), (("l", "a", "a", 0, 3),))):
            self.assertEqual((cut_tree(graph), cut_tree_warrant(graph, ())), ((), ()))
            self.check_yes(graph, ("cut tree", ()), ())
            self.check_no(graph, ("cut tree", ()), ((),), None, [], 0, "", False)
            self.check_error(Refused(("cut tree", ((),))), cut_tree_warrant, graph, ((),))

    def test_no_nodes(self):
        graph = Graph((), ())
        self.check_error(Undefined("tree"), cut_tree, graph)
        for rows in ODD_VALUES:
            self.check_error(Refused(("cut tree", rows)), cut_tree_warrant, graph, rows)
            self.check_no(graph, ("cut tree", rows), (), ((),), None)

    def test_nodes_that_are_not_joined(self):
        graph = Graph(("a", "b", "c"), (("x", "b", "c", 0, 2),))
        self.check_tree(graph)
        for a in ("b", "c"):
            rows = (("a", a, 0), ("b", "c", 2))
            self.check_yes(graph, ("cut tree", rows), ((0,), (2,)))
            self.assertEqual(cut_tree_warrant(graph, rows), ((0,), (2,)))

    def test_all_rows(self):
        for seed in range(120):
            graph = random_graph(seed, most_nodes=4, most_edges=6, most_room=2)
            due = set(slow.cut_tree_rows(graph))
            self.assertIn(cut_tree(graph), due)
            pairs = list(itertools.combinations(graph.nodes, 2))
            rooms = sorted({slow.least_cut(graph, *pair) for pair in pairs} | {1, 2})
            for chosen in itertools.combinations(pairs, len(graph) - 1):
                for found in itertools.product(rooms, repeat=len(chosen)):
                    rows = tuple((*pair, w) for pair, w in zip(chosen, found))
                    if rows in due:
                        self.check_yes(graph, ("cut tree", rows), cut_tree_warrant(graph, rows))
                    else:
                        self.check_error(Refused(("cut tree", rows)), cut_tree_warrant, graph, rows)


class TestCutTreeHolds(WardCase):
    looker = cut_tree_holds

    def check_refused(self, graph, rows):
        self.check_error(Refused(("cut tree", rows)), cut_tree_warrant, graph, rows)

    def test_right_ones(self):
        self.check_yes(TWO, PAIR, ((2, -3),))
        ways = [(-1, 1, -2, 1, 0, 0, 0), (-2, 2, -1, 1, -9, 0, 0), (-2, 2, -1, 1, 7, 0, 0)]
        self.check_no(SAMPLE, CLAIM, replaced(WARRANT, 0, ways[0]))
        for numbers in ways[1:]:
            self.check_yes(SAMPLE, CLAIM, replaced(WARRANT, 0, numbers))

    def test_numbers_that_run_in_rounds(self):
        graph = Graph(("a", "b", "c", "d"), (
            ("x", "a", "b", 0, 1), ("p", "c", "d", 0, 2), ("q", "c", "d", 0, 2), ("r", "b", "c", 0, 0),
        ))
        claim = ("cut tree", (("a", "b", 1), ("b", "c", 0), ("c", "d", 4)))
        zero = (0, 0, 0, 0)
        self.check_yes(graph, claim, ((1, 0, 0, 0), zero, (0, 2, 2, 0)))
        self.check_yes(graph, claim, ((1, 2, -2, 0), (0, -1, 1, 0), (0, 2, 2, 0)))
        self.check_no(graph, claim, ((1, 2, -1, 0), zero, (0, 2, 2, 0)))

    def test_a_behind_b(self):
        turned = replaced(ROWS, 0, ("a", "c", 4))
        self.check_refused(SAMPLE, turned)
        back = tuple(-number for number in WARRANT[0])
        self.check_no(SAMPLE, ("cut tree", turned), WARRANT, replaced(WARRANT, 0, back))
        self.check_no(TWO, ("cut tree", (("b", "a", 5),)), ((-2, 3),), ((2, -3),))

    def test_a_pair_of_equal_nodes(self):
        self.check_refused(TWO, (("a", "a", 0),))
        self.check_no(TWO, ("cut tree", (("a", "a", 0),)), ((0, 0),))
        self.check_no(TWO, ("cut tree", (("a", "a", 5),)), ((2, -3),))

    def test_rows_not_ascending(self):
        for order in itertools.permutations(range(4)):
            rows = tuple(ROWS[at] for at in order)
            warrant = tuple(WARRANT[at] for at in order)
            if rows == ROWS:
                self.check_yes(SAMPLE, ("cut tree", rows), warrant)
            else:
                self.check_refused(SAMPLE, rows)
                self.check_no(SAMPLE, ("cut tree", rows), warrant, WARRANT)

    def test_too_few_or_too_many_rows(self):
        for rows, warrant in (
            (ROWS[:3], WARRANT[:3]), (ROWS + ROWS[3:], WARRANT + WARRANT[3:]), ((), ()),
            (ROWS[:1] + (("c", "b", 4),) + ROWS[1:], WARRANT[:1] + ((1, 2, 1, 1, 0, 0, 0),) + WARRANT[1:]),
        ):
            self.check_refused(SAMPLE, rows)
            self.check_no(SAMPLE, ("cut tree", rows), warrant)

    def test_pairs_that_do_not_join_all(self):
        graph = Graph(("a", "b", "c", "d"), ())
        for rows in (
            (("a", "b", 0), ("a", "c", 0), ("b", "c", 0)), (("a", "b", 0), ("a", "b", 0), ("c", "d", 0)),
        ):
            self.check_refused(graph, rows)
            self.check_no(graph, ("cut tree", rows), ((), (), ()))
        rows = (("a", "b", 0), ("a", "c", 0), ("b", "d", 0))
        self.check_yes(graph, ("cut tree", rows), ((), (), ()))

    def test_a_number_too_small_or_too_great(self):
        for w in (0, 1, 4, 6, 10 ** 12 - 1, -5):
            rows = (("a", "b", w),)
            self.check_refused(TWO, rows)
            self.check_no(TWO, ("cut tree", rows), ((2, -3),), ((2, w - 2),), ((1, -3),))
        for at, w in itertools.product(range(4), (1, 3, 5)):
            rows = replaced(ROWS, at, ROWS[at][:2] + (w,))
            if rows != ROWS and w != ROWS[at][2]:
                self.check_refused(SAMPLE, rows)
                self.check_no(SAMPLE, ("cut tree", rows), WARRANT)

    def test_a_set_of_another_room(self):
        # A row a b c with room 1 each: a and c have the least cut 1, but {a} with c behind has the room 1 + 1.
        graph = Graph(("a", "b", "c"), (("x", "a", "b", 0, 1), ("y", "b", "c", 0, 1)))
        good = (("a", "b", 1), ("b", "c", 1))
        self.check_yes(graph, ("cut tree", good), ((1, 0), (0, 1)))
        rows = (("a", "b", 1), ("a", "c", 1))
        self.check_refused(graph, rows)
        self.check_no(graph, ("cut tree", rows), ((1, 0), (1, 1)))

    def test_numbers_beyond_the_room(self):
        self.check_no(TWO, PAIR, ((3, -2),), ((1, -4),), ((5, 0),), ((0, -5),), ((2, -2),), ((2, 3),), ((-2, 3),))
        self.check_no(SAMPLE, CLAIM, replaced(WARRANT, 0, (-2, 2, -2, 0, 0, 0, 0)))
        self.check_no(SAMPLE, CLAIM, replaced(WARRANT, 0, (-2, 2, 0, 2, 0, 0, 0)))
        self.check_no(SAMPLE, CLAIM, replaced(WARRANT, 0, (-2, 2, -1, 1, 10, 0, 0)))
        self.check_no(SAMPLE, CLAIM, replaced(WARRANT, 0, (-2, 2, -1, 1, -10, 0, 0)))
        self.check_no(SAMPLE, CLAIM, replaced(WARRANT, 1, (0, 0, 0, 0, 0, -4, 1)))

    def test_a_node_that_keeps_some(self):
        self.check_no(SAMPLE, CLAIM, replaced(WARRANT, 0, (-1, 2, -1, 1, 0, 0, 0)))
        self.check_no(SAMPLE, CLAIM, replaced(WARRANT, 2, (3, 1, 1, -1, 0, 0, 0)))
        self.check_no(SAMPLE, CLAIM, replaced(WARRANT, 2, (3, 2, 1, -1, 0, 1, 0)))

    def test_another_amount(self):
        self.check_no(SAMPLE, CLAIM, replaced(WARRANT, 0, (-1, 1, -1, 1, 0, 0, 0)))
        self.check_no(SAMPLE, CLAIM, replaced(WARRANT, 0, tuple(-number for number in WARRANT[0])))
        self.check_no(SAMPLE, CLAIM, replaced(WARRANT, 1, (0,) * 7), replaced(WARRANT, 3, (0, 0, 0, 0, 0, -4, 0)))

    def test_too_few_or_too_many_numbers(self):
        self.check_no(SAMPLE, CLAIM, WARRANT[:3], WARRANT + WARRANT[3:], ())
        self.check_no(SAMPLE, CLAIM, replaced(WARRANT, 3, ()), replaced(WARRANT, 3, (0,) * 6), replaced(WARRANT, 3, (0,) * 8))

    def test_claims_of_another_form(self):
        wrong = ODD_VALUES + [CLAIM + (0,), CLAIM[:1], list(CLAIM), CLAIM[::-1], ("Cut tree", ROWS), ("least cut", ROWS)]
        wrong += [("cut tree", list(ROWS)), ("cut tree", tuple(map(list, ROWS))), ("least cut", "c", "a", 4)]
        for claim in wrong:
            self.check_no(SAMPLE, claim, WARRANT)

    def test_any_rows(self):
        wrong = ODD_VALUES + [list(ROWS), tuple(map(list, ROWS)), ROWS[::-1], (ROWS,), dict.fromkeys(ROWS), ROWS[0]]
        wrong += [replaced(ROWS, 3, row) for row in ODD_VALUES + [
            ("d", "e"), ("d", "e", 0, 0), ("d", "z", 0), ("z", "e", 0), ("d", "e", False), ("d", "e", None), ("d", "u", 0),
            ("d", "e", "0"), ("d", ["e"], 0), (["d"], "e", 0), (None, "e", 0), ("d", SAMPLE, 0), "de0",
        ]]
        for rows in wrong:
            self.check_refused(SAMPLE, rows)
            self.check_no(SAMPLE, ("cut tree", rows), WARRANT)

    def test_any_values(self):
        self.check_looker(SAMPLE, CLAIM, WARRANT)
        self.check_looker(TWO, PAIR, ((2, -3),))


class TestLeastCutHolds(WardCase):
    """The claim of one least cut, which point 40 tells."""

    looker = claim_holds
    claim = ("least cut", "b", "d", 4)
    numbers = (-2, -2, 1, -1, 0, -4, 0)
    side = ("a", "b")

    def test_right_ones(self):
        numbers = self.numbers
        self.check_yes(SAMPLE, self.claim, (numbers, self.side), (numbers, ("c", "a", "b")))
        self.check_yes(SAMPLE, self.claim, (replaced(numbers, 4, 9), self.side), (replaced(numbers, 4, -9), self.side))
        self.check_yes(SAMPLE, ("least cut", "e", "b", 0), ((0,) * 7, ("e",)), ((0,) * 7, ("c", "d", "e")[2:]))

    def test_sides(self):
        wrong = [("b",), ("c", "b"), ("a",), ("a", "b", "d"), SAMPLE.nodes, (), ("b", "a"), ("a", "b", "b"), ["a", "b"]]
        wrong += [("c", "a", "b", "e", "z"), ("a", "b", None), None, "ab", ("a", "b", ["e"]), ("d", "e")]
        self.check_no(SAMPLE, self.claim, *[(self.numbers, side) for side in wrong])

    def test_numbers(self):
        wrong = [(-2, -2, 1, -1, 0, -3, 0), (-3, -1, 1, -1, 0, -4, 0), (-2, -2, 2, 0, 0, -4, 0), (0,) * 7, (-2, -2, 1, -1, 0, -4)]
        wrong += [(-2, -2, 1, -1, 0, -4, 0, 0), list(self.numbers), (), None, 4, (2, 2, -1, 1, 0, 4, 0)]
        wrong += [replaced(self.numbers, 6, value) for value in (False, None, "0", 1, -1, (0,))]
        wrong += [replaced(self.numbers, 4, value) for value in (10, -10, True)]
        self.check_no(SAMPLE, self.claim, *[(numbers, self.side) for numbers in wrong])

    def test_claims(self):
        good = (self.numbers, self.side)
        wrong = [("least cut", "d", "b", 4), ("least cut", "b", "d", 3), ("least cut", "b", "d", 5), ("least cut", "b", "d")]
        wrong += [("least cut", "b", "b", 4), ("least cut", "b", "z", 4), ("flow", "b", "d", 4), ("cut tree", ROWS)]
        wrong += [("least cut", "b", "d", w) for w in (True, None, "4", -4, (4,))] + [["least cut", "b", "d", 4]]
        for claim in wrong + ODD_VALUES:
            self.check_no(SAMPLE, claim, good)
        self.check_no(SAMPLE, self.claim, good[:1], good + ((),), list(good), good[::-1], *ODD_VALUES)

    def test_any_values(self):
        self.check_looker(SAMPLE, self.claim, (self.numbers, self.side))


if __name__ == "__main__":
    unittest.main()
