"""Points 1, 2 and the interface: names, files, parameters, arguments by name."""

import contextlib
import importlib
import inspect
import unittest

from bridgeward.errors import WardError

FUNCTIONS = {
    "readings": [
        "out_labels(graph, name)", "in_labels(graph, name)", "labels_at(graph, name)", "degree(graph, name)",
        "other_end(graph, label, name)", "is_way(graph, s, t, labels)", "is_walk(graph, s, t, labels)",
        "price_of(graph, labels)",
    ],
    "graphtexts": ["read_graph(text)"],
    "distances": [
        "distance(graph, s, t)", "distances(graph, s)", "way_claim(graph, s, t)", "way_warrant(graph, s, t)",
        "way_holds(graph, claim, warrant)",
    ],
    "flows": ["greatest_flow(graph, s, t)", "flow_claim(graph, s, t)", "flow_warrant(graph, s, t)"],
    "cheapest": [
        "cheapest_flow(graph, s, t, amount)", "cheapest_claim(graph, s, t, amount)",
        "cheapest_warrant(graph, s, t, amount)", "flow_holds(graph, claim, warrant)",
    ],
    "apart": [
        "edge_ways(graph, s, t)", "node_ways(graph, s, t)", "ways_claim(graph, kind, s, t)",
        "ways_warrant(graph, kind, s, t)", "ways_hold(graph, claim, warrant)",
    ],
    "parts": [
        "parts(graph)", "bridges(graph)", "cut_nodes(graph)", "cut_claim(graph, kind)", "cut_warrant(graph, kind)",
        "cut_holds(graph, claim, warrant)",
    ],
    "orders": [
        "strong_parts(graph)", "first_order(graph)", "order_claim(graph, kind)", "order_warrant(graph, kind)",
        "order_holds(graph, claim, warrant)",
    ],
    "forests": [
        "forest_price(graph)", "first_forest(graph)", "forest_claim(graph)", "forest_warrant(graph)",
        "forest_holds(graph, claim, warrant)",
    ],
    "trees": [
        "tree_price(graph, r)", "tree_claim(graph, r)", "tree_warrant(graph, r)", "tree_holds(graph, claim, warrant)",
    ],
    "matchings": [
        "matching_size(graph)", "matching_claim(graph)", "matching_warrant(graph)",
        "matching_holds(graph, claim, warrant)",
    ],
    "perfect": [
        "perfect_price(graph)", "perfect_claim(graph)", "perfect_warrant(graph)",
        "perfect_holds(graph, claim, warrant)",
    ],
    "sides": [
        "first_sides(graph)", "sides_claim(graph)", "sides_warrant(graph)", "sides_holds(graph, claim, warrant)",
        "cover_size(graph)", "cover_claim(graph)", "cover_warrant(graph)", "cover_holds(graph, claim, warrant)",
    ],
    "tours": [
        "tour_claim(graph)", "tour_warrant(graph)", "tour_holds(graph, claim, warrant)", "first_tour(graph, name)",
    ],
    "cuts": [
        "least_cut(graph, a, b)", "cut_tree(graph)", "cut_tree_warrant(graph, rows)",
        "cut_tree_holds(graph, claim, warrant)",
    ],
    "holes": [
        "hole_claim(graph)", "hole_warrant(graph)", "hole_holds(graph, claim, warrant)", "first_elimination(graph)",
        "colours(graph)", "colours_claim(graph)", "colours_warrant(graph)", "colours_holds(graph, claim, warrant)",
    ],
    "plane": [
        "plane_claim(graph)", "plane_warrant(graph)", "plane_holds(graph, claim, warrant)", "faces(graph, drawing)",
        "crossing_edges(graph)",
    ],
    "claims": [
        "is_question(value)", "answer_of(graph, question)", "warrant_of(graph, question)", "is_claim(value)",
        "claim_holds(graph, claim, warrant)", "questions_of(claim)", "refute(graph, claim)",
    ],
    "spans": [
        "price_span(graph, claim, label)", "span_warrant(graph, claim, label)",
        "span_holds(graph, claim, label, low, high, given)",
    ],
    "told": ["told(value)", "untold(text)"],
    "edits": [
        "edited(graph, edit)", "touched(graph, question, edit)", "quiet_edges(graph, question)",
        "needed_edges(graph, question)",
    ],
    "wards": ["same_state(one, other)"],
    "papers": ["paper_holds(text)", "paper_end(text)", "relived(text)"],
}
GRAPH_METHODS = [
    "place(self, name)", "with_node(self, name)", "without_node(self, name)", "with_edge(self, edge)",
    "without_edge(self, label)", "with_price(self, label, price)", "with_room(self, label, room)",
    "__init__(self, nodes, edges)",
]
WARD_METHODS = [
    "__init__(self, graph)", "claim(self, question)", "warrant(self, question)", "watch(self, question)",
    "leave(self, question)", "edit(self, edit)", "undo(self)", "redo(self)", "done(self)", "paper(self)",
]
GRAPH_OPERATORS = ["__eq__", "__len__", "__contains__", "__getitem__", "__str__", "__iter__"]


def told_values(values):
    """All values as strings, the graph by its text."""
    return {word: str(value) if word == "graph" else repr(value) for word, value in values.items()}


class TestInterface(unittest.TestCase):
    def test_functions(self):
        for name, told in FUNCTIONS.items():
            module = importlib.import_module("bridgeward." + name)
            for line in told:
                function = getattr(module, line.partition("(")[0])
                self.assertTrue(inspect.isfunction(function))
                self.assertEqual(function.__module__, module.__name__)
                self.assertEqual(function.__name__ + str(inspect.signature(function)), line)

    def check_methods(self, one_class, lines):
        for line in lines:
            method = vars(one_class)[line.partition("(")[0]]
            self.assertEqual(method.__name__ + str(inspect.signature(method)), line)

    def test_graph(self):
        graph_class = importlib.import_module("bridgeward.graphs").Graph
        self.assertEqual(graph_class.__module__, "bridgeward.graphs")
        self.check_methods(graph_class, GRAPH_METHODS)
        for name in GRAPH_OPERATORS:
            self.assertIn(name, vars(graph_class))

    def test_ward(self):
        ward_class = importlib.import_module("bridgeward.wards").Ward
        self.assertEqual(ward_class.__module__, "bridgeward.wards")
        self.check_methods(ward_class, WARD_METHODS)
        ward = ward_class(graph=importlib.import_module("bridgeward.graphs").Graph((), ()))
        self.assertLessEqual({"graph", "watched"}, set(vars(ward)))

    def test_arguments_stay(self):
        graph_class = importlib.import_module("bridgeward.graphs").Graph
        graph = graph_class(("s", "u", "t"), (("x", "s", "u", -1, 2), ("y", "u", "t", 3, 2), ("l", "u", "u", -1, 3)))
        ward = importlib.import_module("bridgeward.wards").Ward(graph)
        values = {
            "graph": graph, "s": "s", "t": "t", "name": "s", "label": "x", "labels": ["x", "y"], "amount": 1,
            "r": "s", "kind": "node ways", "claim": ["flow", ["s"]], "warrant": [["x"], ("s", [])], "text": "nodes",
            "a": "s", "b": "t", "rows": [("s", "t", ["u"])], "drawing": [("x",), ["x"]], "question": ["flow", "s", "t"],
            "value": ("a", (1, None)), "edit": ["take edge", "x"], "low": [1], "high": [None], "given": [[()], ["x"]],
            "one": ward, "other": ward,
        }
        before = told_values(values)
        for name, told in FUNCTIONS.items():
            for line in told:
                function = getattr(importlib.import_module("bridgeward." + name), line.partition("(")[0])
                given = {word: values[word] for word in inspect.signature(function).parameters}
                with contextlib.suppress(WardError):
                    function(**given)
                self.assertEqual(told_values(values), before)

    def test_arguments_by_name(self):
        graph_class = importlib.import_module("bridgeward.graphs").Graph
        graph = graph_class(edges=[("x", "a", "b", 1, 2)], nodes=["a", "b"])
        self.assertEqual(graph.with_price(price=3, label="x")["x"], ("x", "a", "b", 3, 2))
        readings = importlib.import_module("bridgeward.readings")
        self.assertEqual(readings.other_end(name="b", label="x", graph=graph), "a")
        self.assertIs(readings.is_way(labels=("x",), t="b", s="a", graph=graph), True)


if __name__ == "__main__":
    unittest.main()
