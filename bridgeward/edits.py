"""Edits of graphs, and what they change of an answer."""

from bridgeward.claims import answer_of
from bridgeward.errors import InvalidEdit
from bridgeward.forms import has_form, word_of

EDIT_FORMS = {
    "add node": ("name",),
    "take node": ("name",),
    "add edge": ("edge",),
    "take edge": ("label",),
    "set price": ("label", "integer"),
    "set room": ("label", "number"),
}


def edited(graph, edit):
    """The graph with the edit done."""
    word = word_of(edit)
    if word not in EDIT_FORMS or not has_form(edit, EDIT_FORMS[word]):
        raise InvalidEdit(edit)
    if word == "add node":
        return graph.with_node(edit[1])
    if word == "take node":
        return graph.without_node(edit[1])
    if word == "add edge":
        return graph.with_edge(edit[1])
    if word == "take edge":
        return graph.without_edge(edit[1])
    if word == "set price":
        return graph.with_price(edit[1], edit[2])
    return graph.with_room(edit[1], edit[2])


def touched(graph, question, edit):
    """Whether the answer to the question changes by the edit."""
    before = answer_of(graph, question)
    return answer_of(edited(graph, edit), question) != before


def quiet_edges(graph, question):
    """The labels of the edges that can be taken out, each alone, without changing the answer."""
    before = answer_of(graph, question)
    labels = [edge[0] for edge in graph.edges]
    return tuple([label for label in labels if answer_of(graph.without_edge(label), question) == before])


def needed_edges(graph, question):
    """The labels of the edges that cannot be taken out without changing the answer."""
    quiet = quiet_edges(graph, question)
    return tuple([edge[0] for edge in graph.edges if edge[0] not in quiet])
