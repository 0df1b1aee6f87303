"""Rows of deeds for wards, and a slow reading of papers."""

import random

from bridgeward.claims import answer_of, claim_holds, is_question
from bridgeward.edits import edited
from bridgeward.errors import WardError
from bridgeward.graphs import Graph
from bridgeward.told import told, untold
from questions import QUESTIONS, question


def some_edit(dice, graph):
    """An edit, which may not fit the graph."""
    names = list(graph.nodes) + ["n"]
    labels = [edge[0] for edge in graph.edges] + ["m"]
    label, edge = dice.choice(labels), (dice.choice(["m", "k", "j"]), dice.choice(names), dice.choice(names))
    edge = (*edge, dice.randint(-3, 4), dice.randint(0, 3))
    return dice.choice([
        ("add node", "n"), ("take node", dice.choice(names)), ("add edge", edge), ("add edge", edge), ("take edge", label),
        ("set price", label, edge[3]), ("set room", label, edge[4]), ("set price", label, edge[3]),
    ])


def some_deeds(seed, graph, many, most_watched=6, kinds=tuple(QUESTIONS)):
    """So many deeds as pairs of a word and an argument; those that are edits may not fit the graph."""
    dice = random.Random(seed)
    names = list(graph.nodes[:3]) + ["n"]
    deeds = []
    watched = []
    for _ in range(many):
        word = dice.choice(["watch"] * 2 + ["leave"] + ["edit"] * 6 + ["undo"] * 3 + ["redo"] * 2)
        if word == "watch" and len(watched) < most_watched:
            watched.append(question(dice.choice(kinds), dice.sample(names, 2), dice.randint(0, 2)))
            deeds.append((word, watched[-1]))
        elif word == "leave" and watched:
            deeds.append((word, watched.pop(dice.randrange(len(watched)))))
        elif word in ("undo", "redo"):
            deeds.append((word, None))
        else:
            deeds.append(("edit", lambda present: some_edit(dice, present)))
    return deeds


def do(ward, deed):
    """Lead the ward through the deed, whatever comes of it; what it answers, or the error."""
    word, value = deed
    try:
        if word in ("undo", "redo"):
            return getattr(ward, word)()
        if word == "edit" and callable(value):
            value = value(ward.graph)
        return getattr(ward, word)(value)
    except WardError as error:
        return error


def wrong_place(text):
    """The place at which the text stops to be a paper, None if it is one."""
    lines = text.split("\n")
    wrong = first_wrong(lines)
    if wrong is None:
        return None
    return min(sum(len(line) + 1 for line in lines[:wrong]), len(text))


def first_wrong(lines):
    """The number of the first line that is wrong or lacking, None if there is none."""
    value = value_behind(lines[0], "graph ")
    try:
        before, after = [Graph(*value)], []
    except (WardError, TypeError):
        return 0
    watched = []
    at = 1
    while at < len(lines):
        asked = asked_by(lines[at], before, after, watched)
        if asked is None:
            return at
        for one in asked:
            for word in ("claim ", "warrant "):
                at += 1
                claim = answer_of(before[-1], one)
                if at == len(lines):
                    return at
                if word == "claim " and lines[at] != word + told(claim):
                    return at
                if word == "warrant " and not claim_holds(before[-1], claim, value_behind(lines[at], word)):
                    return at
        at += 1
    return None


def asked_by(line, before, after, watched):
    """The questions whose answers are due behind the line of a deed, which is done; None if it cannot be done."""
    if line == "undo" and len(before) > 1:
        after.append(before.pop())
        return list(watched)
    if line == "redo" and after:
        before.append(after.pop())
        return list(watched)
    asked = value_behind(line, "watch ")
    if is_question(asked) and asked not in watched:
        watched.append(asked)
        return [asked]
    asked = value_behind(line, "leave ")
    if asked in watched:
        watched.remove(asked)
        return []
    try:
        before.append(edited(before[-1], value_behind(line, "edit ")))
    except WardError:
        return None
    after.clear()
    return list(watched)


def value_behind(line, word):
    """The value that the line tells behind this word, else a value that fits nowhere."""
    try:
        return untold(line[len(word):]) if line.startswith(word) else [line]
    except WardError:
        return [line]
