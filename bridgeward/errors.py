"""The errors of the package: each keeps what it was made with."""


class WardError(ValueError):
    """What all errors of this package stand under; never raised itself."""


class InvalidGraph(WardError):
    """Nodes or edges that make no graph."""

    def __init__(self, value):
        self.value = value


class InvalidText(WardError):
    """A text that tells nothing; at is the place of what is wrong first."""

    def __init__(self, text, at):
        self.text = text
        self.at = at


class UnknownNode(WardError):
    """A name that is no node's."""

    def __init__(self, name):
        self.name = name


class UnknownEdge(WardError):
    """A label that is no edge's."""

    def __init__(self, label):
        self.label = label


class Taken(WardError):
    """A node or label that is there already."""

    def __init__(self, name):
        self.name = name


class InvalidNumber(WardError):
    """What should be an integer or a number and is none."""

    def __init__(self, value):
        self.value = value


class Undefined(WardError):
    """What is asked for does not exist; what is the word for it."""

    def __init__(self, what):
        self.what = what


class InvalidClaim(WardError):
    """What should be a claim and is none."""

    def __init__(self, value):
        self.value = value


class Refused(WardError):
    """A claim that is not true."""

    def __init__(self, claim):
        self.claim = claim


class InvalidQuestion(WardError):
    """What should be a question, or a kind of one, and is none."""

    def __init__(self, value):
        self.value = value


class NotWatched(WardError):
    """A question that is not watched."""

    def __init__(self, question):
        self.question = question


class NothingToUndo(WardError):
    """Nothing is there to be undone or done again; deed tells which."""

    def __init__(self, deed):
        self.deed = deed


class InvalidEdit(WardError):
    """What should be an edit and is none."""

    def __init__(self, value):
        self.value = value
