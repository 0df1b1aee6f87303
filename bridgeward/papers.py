"""Papers: texts of the histories of wards, looked at and led through."""

from bridgeward.claims import claim_holds
from bridgeward.errors import InvalidText, WardError
from bridgeward.graphs import Graph
from bridgeward.told import told, untold
from bridgeward.values import has_parts
from bridgeward.wards import Ward, put_warrants


class Paper:
    """The lines of a text, read one behind the other."""

    def __init__(self, text):
        self.lines = text.split("\n")
        self.read = 0

    def has_more(self):
        """Whether there are lines that are not read."""
        return self.read < len(self.lines)

    def take_line(self):
        """Read the next line."""
        self.read += 1
        if self.read > len(self.lines):
            raise InvalidText("", 0)
        return self.lines[self.read - 1]

    def place(self):
        """The place of the line read last, or the length of the text if it was lacking."""
        ahead = self.lines[:self.read - 1]
        behind_last = 1 if self.read > len(self.lines) else 0
        return sum([len(line) + 1 for line in ahead]) - behind_last


def _told_behind(word, line):
    """The value that the line tells behind this word and a blank."""
    if not line.startswith(word + " "):
        raise InvalidText(line, 0)
    return untold(line[len(word) + 1:])


def _first_ward(line):
    """The ward of the graph that the first line tells."""
    value = _told_behind("graph", line)
    if not has_parts(value, 2):
        raise InvalidText(line, 0)
    nodes, edges = value
    return Ward(Graph(nodes, edges))


def _do(ward, line):
    """Lead the ward through the deed of the line; the questions whose answers stand behind it."""
    if line == "undo":
        ward.undo()
        return ward.watched
    if line == "redo":
        ward.redo()
        return ward.watched
    if line.startswith("edit "):
        ward.edit(_told_behind("edit", line))
        return ward.watched
    if line.startswith("leave "):
        ward.leave(_told_behind("leave", line))
        return ()
    question = _told_behind("watch", line)
    if question in ward.watched:
        raise InvalidText(line, 0)
    ward.watch(question)
    return (question,)


def _take_warrant(ward, question, paper):
    """Read the lines of the answer to the question; the warrant that they tell."""
    claim = ward.claim(question)
    line = paper.take_line()
    if line != "claim " + told(claim):
        raise InvalidText(line, 0)
    line = paper.take_line()
    warrant = _told_behind("warrant", line)
    if not claim_holds(ward.graph, claim, warrant):
        raise InvalidText(line, 0)
    return warrant


def _led_through(paper):
    """A ward led through all lines; a WardError if the line read last is wrong or lacking."""
    ward = _first_ward(paper.take_line())
    while paper.has_more():
        questions = _do(ward, paper.take_line())
        warrants = []
        for question in questions:
            warrants.append(_take_warrant(ward, question, paper))
        put_warrants(ward, questions, warrants)
    return ward


def relived(text):
    """A ward that was led through the history of the paper."""
    paper = Paper(text)
    try:
        return _led_through(paper)
    except WardError:
        raise InvalidText(text, paper.place()) from None


def paper_holds(text):
    """Whether the text is the paper of some ward."""
    try:
        relived(text)
    except InvalidText:
        return False
    return True


def paper_end(text):
    """The graph and the watched questions at the paper's end."""
    ward = relived(text)
    return (ward.graph, ward.watched)
