"""Questions and claims of each kind, and the answers that the functions of the sections give."""

import itertools

from bridgeward.apart import ways_claim, ways_hold
from bridgeward.cheapest import cheapest_claim, flow_holds
from bridgeward.claims import claim_holds
from bridgeward.cuts import least_cut
from bridgeward.distances import way_claim, way_holds
from bridgeward.errors import Undefined
from bridgeward.flows import flow_claim
from bridgeward.forests import forest_claim, forest_holds
from bridgeward.graphs import Graph
from bridgeward.holes import colours_claim, colours_holds, hole_claim, hole_holds
from bridgeward.matchings import matching_claim, matching_holds
from bridgeward.orders import order_claim, order_holds
from bridgeward.parts import cut_claim, cut_holds
from bridgeward.perfect import perfect_claim, perfect_holds
from bridgeward.plane import plane_claim, plane_holds
from bridgeward.sides import cover_claim, cover_holds, sides_claim, sides_holds
from bridgeward.tours import tour_claim, tour_holds
from bridgeward.trees import tree_claim, tree_holds

# All kinds of questions in the order of point 38, with the kinds of their parts.
QUESTIONS = {
    "way": "nn", "flow": "nn", "cheapest": "nnk", "edge ways": "nn", "node ways": "nn", "least cut": "nn", "parts": "",
    "bridges": "", "cut nodes": "", "strong": "", "order": "", "forest": "", "tree": "n", "matching": "", "perfect": "",
    "sides": "", "cover": "", "tour": "", "hole": "", "colours": "", "plane": "",
}
# All kinds of claims: n for a name, l for a label, k for a number, i for an integer, N for names, R for rows.
CLAIMS = {
    "distance": "nni", "no way": "nn", "ever less": "nn", "flow": "nnk", "cheapest": "nnki", "no flow": "nnk",
    "edge ways": "nnk", "node ways": "nnk", "joined": "nnl", "least cut": "nnk", "parts": "R", "bridges": "N",
    "cut nodes": "N", "strong": "R", "order": "", "round": "", "forest": "i", "tree": "ni", "no tree": "n",
    "matching": "k", "perfect": "i", "no perfect": "", "sides": "", "odd circle": "", "cover": "k", "tour": "",
    "no tour": "", "no hole": "", "hole": "", "colours": "k", "plane": "", "not plane": "", "no node": "n",
}
# For each kind of claim the kinds of questions that it answers, where these are not called so.
ANSWERED = {
    "distance": ["way"], "no way": ["way"], "ever less": ["way"], "no flow": ["cheapest"], "joined": ["node ways"],
    "round": ["order"], "no tree": ["tree"], "no perfect": ["perfect"], "odd circle": ["sides", "cover"],
    "no tour": ["tour"], "no hole": ["hole"], "hole": ["hole", "colours"], "not plane": ["plane"], "no node": [],
}
# The function that looks at warrants of a claim's own section.
LOOKERS = {
    way_holds: ["distance", "no way", "ever less"], flow_holds: ["flow", "cheapest", "no flow"],
    ways_hold: ["edge ways", "node ways"], cut_holds: ["parts", "bridges", "cut nodes"],
    order_holds: ["strong", "order", "round"], forest_holds: ["forest"], tree_holds: ["tree", "no tree"],
    matching_holds: ["matching"], perfect_holds: ["perfect", "no perfect"], sides_holds: ["sides", "odd circle"],
    cover_holds: ["cover"], tour_holds: ["tour", "no tour"], hole_holds: ["no hole", "hole"], colours_holds: ["colours"],
    plane_holds: ["plane", "not plane"],
}
# Where a warrant stands for each of the 21 kinds, and for the other claims of some.
GRAPH = Graph(("s", "u", "t", "v"), (
    ("x", "s", "u", 1, 2), ("y", "u", "t", -2, 2), ("z", "s", "u", 3, 1), ("w", "t", "v", 0, 1), ("q", "s", "v", 9, 3),
))
ODD = Graph(("s", "t", "u", "v"), (
    ("x", "s", "t", -5, 2), ("y", "t", "u", 2, 2), ("z", "u", "s", 1, 1), ("w", "t", "t", 0, 1), ("q", "u", "v", 4, 0),
))
RING = Graph(("s", "t", "u", "v"), [
    (label, *pair, 2, 1) for label, pair in zip("wxyz", [("s", "t"), ("t", "u"), ("u", "v"), ("v", "s")])
])
FIVE = Graph(tuple("stuvw"), [
    (label, *pair, -1, 1) for label, pair in zip("abcdefghij", itertools.combinations("stuvw", 2))
])
LONE = Graph(("s", "t"), ())
GRAPHS = [GRAPH, ODD, RING, FIVE, LONE, Graph((), ())]


def question(kind, names=("s", "t"), amount=1):
    """The question of this kind with these names and this amount."""
    parts = QUESTIONS[kind]
    return (kind, *names[:parts.count("n")], *[amount][:parts.count("k")])


def questions(graph, amounts=(0, 1, 2)):
    """All questions about the graph's nodes, with these amounts."""
    for kind, parts in QUESTIONS.items():
        for names in itertools.product(graph.nodes, repeat=parts.count("n")):
            if kind == "way" or len(set(names)) == len(names):
                for amount in amounts if "k" in parts else [0]:
                    yield question(kind, names, amount)


def few_questions(graph):
    """A question of each kind about the graph's first and last node, that about a way back, and about no node."""
    names = (graph.nodes or ("s",))[0], (graph.nodes or ("t",))[-1]
    pair = names if names[0] != names[1] else (names[0], "none")
    found = [question(kind, names if kind == "way" else pair, 2) for kind in QUESTIONS]
    return found + [("way", *names[::-1]), ("flow", *pair[::-1]), ("tree", pair[1]), ("tree", "none")]


def answer(graph, asked):
    """The answer that the functions of the sections give."""
    kind, *parts = asked
    for name in [part for part in parts if isinstance(part, str)]:
        if name not in graph.nodes:
            return ("no node", name)
    if kind == "node ways":
        labels = [edge[0] for edge in graph.edges if list(edge[1:3]) == parts]
        return ("joined", *parts, labels[0]) if labels else ways_claim(graph, kind, *parts)
    if kind in ("cover", "colours"):
        try:
            return cover_claim(graph) if kind == "cover" else colours_claim(graph)
        except Undefined:
            return ("odd circle",) if kind == "cover" else ("hole",)
    calls = {
        "way": way_claim, "flow": flow_claim, "cheapest": cheapest_claim, "forest": forest_claim, "tree": tree_claim,
        "matching": matching_claim, "perfect": perfect_claim, "sides": sides_claim, "tour": tour_claim,
        "hole": hole_claim, "plane": plane_claim,
        "edge ways": lambda graph, s, t: ways_claim(graph, kind, s, t),
        "least cut": lambda graph, a, b: (kind, a, b, least_cut(graph, a, b)),
    }
    calls.update(dict.fromkeys(["parts", "bridges", "cut nodes"], lambda graph: cut_claim(graph, kind)))
    calls.update(dict.fromkeys(["strong", "order"], lambda graph: order_claim(graph, kind)))
    return calls[kind](graph, *parts)


def looker_of(kind):
    """The function of the section that looks at warrants of claims of this kind, else claim_holds."""
    for looker, kinds in LOOKERS.items():
        if kind in kinds:
            return looker
    return claim_holds
