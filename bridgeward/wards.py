"""Wards: a graph under edits, the questions that are watched, and the history of both."""

from bridgeward.claims import answer_of, claim_holds, is_question, warrant_of
from bridgeward.edits import edited
from bridgeward.errors import InvalidQuestion, NothingToUndo, NotWatched
from bridgeward.told import told

KEPT = "kept"
RENEWED = "renewed"
CHANGED = "changed"


def _what_became(graph, question, answer):
    """What became of an answer, a pair of claim and warrant, now that the graph is this one: a word, and the answer."""
    claim, warrant = answer
    present = answer_of(graph, question)
    if present != claim:
        return CHANGED, (present, warrant_of(graph, question))
    if claim_holds(graph, claim, warrant):
        return KEPT, answer
    return RENEWED, (claim, warrant_of(graph, question))


class Ward:
    """A graph, the watched questions with their answers, and the edits done and undone."""

    def __init__(self, graph):
        self.graph = graph
        self.watched = ()
        # For each watched question the pair of its claim and the warrant.
        self._answers = {}
        # Pairs of an edit and the graph ahead of it, and of an edit undone and the graph behind it.
        self._done = []
        self._undone = []
        # For each deed its line, and the pairs of claim and warrant that are told with it.
        self._deeds = [("graph " + told((graph.nodes, graph.edges)), ())]

    def claim(self, question):
        """The answer to a watched question."""
        self._require_watched(question)
        return self._answers[question][0]

    def warrant(self, question):
        """The warrant that is kept of the answer to a watched question."""
        self._require_watched(question)
        return self._answers[question][1]

    def _require_watched(self, question):
        """Raise NotWatched unless the question is watched."""
        if not is_question(question) or question not in self.watched:
            raise NotWatched(question)

    def watch(self, question):
        """Watch the question; its answer."""
        if not is_question(question):
            raise InvalidQuestion(question)
        if question not in self.watched:
            answer = (answer_of(self.graph, question), warrant_of(self.graph, question))
            self.watched = (*self.watched, question)
            self._answers[question] = answer
            self._deeds.append(("watch " + told(question), (answer,)))
        return self._answers[question][0]

    def leave(self, question):
        """Watch the question no longer."""
        self._require_watched(question)
        self.watched = tuple([other for other in self.watched if other != question])
        del self._answers[question]
        self._deeds.append(("leave " + told(question), ()))

    def edit(self, edit):
        """Edit the graph; the report."""
        graph = edited(self.graph, edit)
        self._done.append((edit, self.graph))
        self._undone = []
        return self._come_to(graph, "edit " + told(edit))

    def undo(self):
        """Undo the last edit done; the report."""
        if not self._done:
            raise NothingToUndo("undo")
        edit, graph = self._done.pop()
        self._undone.append((edit, self.graph))
        return self._come_to(graph, "undo")

    def redo(self):
        """Do the edit undone last once more; the report."""
        if not self._undone:
            raise NothingToUndo("redo")
        edit, graph = self._undone.pop()
        self._done.append((edit, self.graph))
        return self._come_to(graph, "redo")

    def _come_to(self, graph, line):
        """Keep this graph from now on, by the deed of this line; the report."""
        report = []
        answers = {}
        for question in self.watched:
            word, answer = _what_became(graph, question, self._answers[question])
            report.append((question, word, answer[0]))
            answers[question] = answer
        self.graph = graph
        self._answers = answers
        self._deeds.append((line, tuple(answers.values())))
        return tuple(report)

    def done(self):
        """The edits that are done and not undone, in order."""
        return tuple([edit for edit, _ in self._done])

    def paper(self):
        """The text of the history."""
        lines = []
        for line, answers in self._deeds:
            lines.append(line)
            for claim, warrant in answers:
                lines.append("claim " + told(claim))
                lines.append("warrant " + told(warrant))
        return "\n".join(lines)


def put_warrants(ward, questions, warrants):
    """Put these warrants of the answers to watched questions in the place of those that the last deed told."""
    for question, warrant in zip(questions, warrants):
        ward._answers[question] = (ward.claim(question), warrant)
    line, _ = ward._deeds.pop()
    ward._deeds.append((line, tuple([ward._answers[question] for question in questions])))


def same_state(one, other):
    """Whether two wards have equal graphs, watched questions, claims and done edits."""
    if one.graph != other.graph or one.watched != other.watched or one.done() != other.done():
        return False
    return all([one.claim(question) == other.claim(question) for question in one.watched])
