"""The answers to questions whose names are nodes, and warrants of these answers."""

from bridgeward.apart import NODE_WAYS, first_joining, ways_claim, ways_warrant
from bridgeward.cheapest import cheapest_claim, cheapest_warrant
from bridgeward.cuts import LEAST_CUT, least_cut_claim, least_cut_warrant
from bridgeward.distances import way_claim, way_warrant
from bridgeward.flows import flow_claim, flow_warrant
from bridgeward.forests import forest_claim, forest_warrant
from bridgeward.holes import HOLE, colours_claim, colours_warrant, hole_claim, hole_warrant
from bridgeward.matchings import matching_claim, matching_warrant
from bridgeward.orders import ORDER, STRONG, order_claim, order_warrant
from bridgeward.parts import cut_claim, cut_warrant
from bridgeward.perfect import perfect_claim, perfect_warrant
from bridgeward.plane import plane_claim, plane_warrant
from bridgeward.sides import ODD_CIRCLE, cover_claim, cover_warrant, sides_claim, sides_warrant
from bridgeward.tours import tour_claim, tour_warrant
from bridgeward.trees import tree_claim, tree_warrant

JOINED = "joined"


def nodes_answer(graph, question):
    """The claim that answers a question that names nodes."""
    kind = question[0]
    if kind == "tree":
        return tree_claim(graph, question[1])
    s, t = question[1:3]
    if kind == "way":
        return way_claim(graph, s, t)
    if kind == "flow":
        return flow_claim(graph, s, t)
    if kind == "cheapest":
        return cheapest_claim(graph, s, t, question[3])
    if kind == LEAST_CUT:
        return least_cut_claim(graph, s, t)
    if kind == NODE_WAYS and first_joining(graph, s, t) is not None:
        return (JOINED, s, t, first_joining(graph, s, t))
    return ways_claim(graph, kind, s, t)


def nodes_warrant(graph, question):
    """Some warrant of nodes_answer(graph, question)."""
    kind = question[0]
    if kind == "tree":
        return tree_warrant(graph, question[1])
    s, t = question[1:3]
    if kind == "way":
        return way_warrant(graph, s, t)
    if kind == "flow":
        return flow_warrant(graph, s, t)
    if kind == "cheapest":
        return cheapest_warrant(graph, s, t, question[3])
    if kind == LEAST_CUT:
        return least_cut_warrant(graph, s, t)
    if kind == NODE_WAYS and first_joining(graph, s, t) is not None:
        return ()
    return ways_warrant(graph, kind, s, t)


def whole_answer(graph, kind):
    """The claim that answers the question of this kind, which asks about the whole graph."""
    if kind in (STRONG, ORDER):
        return order_claim(graph, kind)
    if kind == "forest":
        return forest_claim(graph)
    if kind == "matching":
        return matching_claim(graph)
    if kind == "perfect":
        return perfect_claim(graph)
    if kind == "tour":
        return tour_claim(graph)
    if kind == "plane":
        return plane_claim(graph)
    if kind in ("sides", "cover"):
        found = sides_claim(graph)
        return cover_claim(graph) if kind == "cover" and found != ODD_CIRCLE else found
    if kind in ("hole", "colours"):
        found = hole_claim(graph)
        return colours_claim(graph) if kind == "colours" and found != HOLE else found
    return cut_claim(graph, kind)


def whole_warrant(graph, kind):
    """Some warrant of whole_answer(graph, kind)."""
    if kind in (STRONG, ORDER):
        return order_warrant(graph, kind)
    if kind == "forest":
        return forest_warrant(graph)
    if kind == "matching":
        return matching_warrant(graph)
    if kind == "perfect":
        return perfect_warrant(graph)
    if kind == "tour":
        return tour_warrant(graph)
    if kind == "plane":
        return plane_warrant(graph)
    if kind in ("sides", "cover"):
        odd = sides_claim(graph) == ODD_CIRCLE
        return cover_warrant(graph) if kind == "cover" and not odd else sides_warrant(graph)
    if kind in ("hole", "colours"):
        hole = hole_claim(graph) == HOLE
        return colours_warrant(graph) if kind == "colours" and not hole else hole_warrant(graph)
    return cut_warrant(graph, kind)
