"""Questions, the claims that answer them, and the warrants of all claims."""

from bridgeward.answers import JOINED, nodes_answer, nodes_warrant, whole_answer, whole_warrant
from bridgeward.apart import first_joining, ways_hold
from bridgeward.cheapest import flow_holds
from bridgeward.cuts import least_cut_holds
from bridgeward.distances import way_holds
from bridgeward.errors import InvalidClaim, InvalidQuestion
from bridgeward.forests import forest_holds
from bridgeward.forms import has_form, names_in, word_of
from bridgeward.holes import colours_holds, hole_holds
from bridgeward.matchings import matching_holds
from bridgeward.orders import order_holds
from bridgeward.parts import cut_holds
from bridgeward.perfect import perfect_holds
from bridgeward.plane import plane_holds
from bridgeward.sides import cover_holds, sides_holds
from bridgeward.tours import tour_holds
from bridgeward.trees import tree_holds

NO_NODE = "no node"

QUESTION_FORMS = {
    "way": ("name", "name"),
    "flow": ("name", "name"),
    "cheapest": ("name", "name", "number"),
    "edge ways": ("name", "name"),
    "node ways": ("name", "name"),
    "least cut": ("name", "name"),
    "parts": (),
    "bridges": (),
    "cut nodes": (),
    "strong": (),
    "order": (),
    "forest": (),
    "tree": ("name",),
    "matching": (),
    "perfect": (),
    "sides": (),
    "cover": (),
    "tour": (),
    "hole": (),
    "colours": (),
    "plane": (),
}
CLAIM_FORMS = {
    "distance": ("name", "name", "integer"),
    "no way": ("name", "name"),
    "ever less": ("name", "name"),
    "flow": ("name", "name", "number"),
    "cheapest": ("name", "name", "number", "integer"),
    "no flow": ("name", "name", "number"),
    "edge ways": ("name", "name", "number"),
    "node ways": ("name", "name", "number"),
    "joined": ("name", "name", "label"),
    "least cut": ("name", "name", "number"),
    "parts": ("rows",),
    "bridges": ("names",),
    "cut nodes": ("names",),
    "strong": ("rows",),
    "order": (),
    "round": (),
    "forest": ("integer",),
    "tree": ("name", "integer"),
    "no tree": ("name",),
    "matching": ("number",),
    "perfect": ("integer",),
    "no perfect": (),
    "sides": (),
    "odd circle": (),
    "cover": ("number",),
    "tour": (),
    "no tour": (),
    "no hole": (),
    "hole": (),
    "colours": ("number",),
    "plane": (),
    "not plane": (),
    "no node": ("name",),
}
# The kinds of which both names may be equal.
ABOUT_WAYS = ("way", "distance", "no way", "ever less")
# The kinds of questions that a claim of another kind answers, each in the order of the questions.
ANSWERED = {
    "distance": ("way",),
    "no way": ("way",),
    "ever less": ("way",),
    "no flow": ("cheapest",),
    "joined": ("node ways",),
    "round": ("order",),
    "no tree": ("tree",),
    "no perfect": ("perfect",),
    "odd circle": ("sides", "cover"),
    "no tour": ("tour",),
    "no hole": ("hole",),
    "hole": ("hole", "colours"),
    "not plane": ("plane",),
    "no node": (),
}


def _has_fitting_form(value, kinds):
    """Whether value has the form of these kinds, its two names unlike where they must be."""
    if not has_form(value, kinds):
        return False
    names = names_in(value, kinds)
    return len(names) < 2 or value[0] in ABOUT_WAYS or names[0] != names[1]


def is_question(value):
    """Whether value is a question, whatever nodes there are."""
    word = word_of(value)
    return word in QUESTION_FORMS and _has_fitting_form(value, QUESTION_FORMS[word])


def is_claim(value):
    """Whether value is a claim, whatever nodes there are."""
    word = word_of(value)
    return word in CLAIM_FORMS and _has_fitting_form(value, CLAIM_FORMS[word])


def _first_stranger(graph, question):
    """The first name in the question that is no node's, or None if there is none."""
    for name in names_in(question, QUESTION_FORMS[question[0]]):
        if name not in graph:
            return name
    return None


def answer_of(graph, question):
    """The one claim that answers the question."""
    if not is_question(question):
        raise InvalidQuestion(question)
    stranger = _first_stranger(graph, question)
    if stranger is not None:
        return (NO_NODE, stranger)
    return whole_answer(graph, question[0]) if len(question) == 1 else nodes_answer(graph, question)


def warrant_of(graph, question):
    """Some warrant of answer_of(graph, question)."""
    if not is_question(question):
        raise InvalidQuestion(question)
    if _first_stranger(graph, question) is not None:
        return ()
    return whole_warrant(graph, question[0]) if len(question) == 1 else nodes_warrant(graph, question)


def claim_holds(graph, claim, warrant):
    """Whether claim is a claim in its form, and warrant one of its warrants."""
    if not is_claim(claim):
        return False
    if claim[0] == NO_NODE:
        return claim[1] not in graph and warrant == ()
    if claim[0] == JOINED:
        # Names that are no nodes' are no ends of edges either.
        return first_joining(graph, claim[1], claim[2]) == claim[3] and warrant == ()
    # Each of these says False of claims of other kinds than its own.
    return (
        way_holds(graph, claim, warrant)
        or flow_holds(graph, claim, warrant)
        or ways_hold(graph, claim, warrant)
        or least_cut_holds(graph, claim, warrant)
        or cut_holds(graph, claim, warrant)
        or order_holds(graph, claim, warrant)
        or forest_holds(graph, claim, warrant)
        or tree_holds(graph, claim, warrant)
        or matching_holds(graph, claim, warrant)
        or perfect_holds(graph, claim, warrant)
        or sides_holds(graph, claim, warrant)
        or cover_holds(graph, claim, warrant)
        or tour_holds(graph, claim, warrant)
        or hole_holds(graph, claim, warrant)
        or colours_holds(graph, claim, warrant)
        or plane_holds(graph, claim, warrant)
    )


def questions_of(claim):
    """The questions that a claim of this kind may answer, with its names and amount."""
    if not is_claim(claim):
        raise InvalidClaim(claim)
    kinds = ANSWERED.get(claim[0], (claim[0],))
    # The parts of a question stand in each of its claims first, and in the same order.
    return tuple([(kind, *claim[1:1 + len(QUESTION_FORMS[kind])]) for kind in kinds])


def refute(graph, claim):
    """None if the claim is true or has no question, else the answer in its place and some warrant of it."""
    questions = questions_of(claim)
    if questions == () or claim == answer_of(graph, questions[0]):
        return None
    return (answer_of(graph, questions[0]), warrant_of(graph, questions[0]))
