"""The forms of questions, claims and edits: a word, and behind it parts of some kinds, told as words too."""

from bridgeward.values import has_parts, is_edge, is_integer, is_name, is_number


def _are_names(value):
    """Whether value is a tuple of names."""
    return isinstance(value, tuple) and all([is_name(name) for name in value])


def _fits(value, kind):
    """Whether value is a part of this kind."""
    if kind in ("name", "label"):
        return is_name(value)
    if kind == "integer":
        return is_integer(value)
    if kind == "number":
        return is_number(value)
    if kind == "edge":
        return is_edge(value)
    if kind == "names":
        return _are_names(value)
    return isinstance(value, tuple) and all([_are_names(row) for row in value])


def word_of(value):
    """The word with which a tuple begins; None if value is no tuple or does not begin with a word."""
    if not isinstance(value, tuple) or value == () or not isinstance(value[0], str):
        return None
    return value[0]


def has_form(value, kinds):
    """Whether value is a tuple of its word and parts of these kinds behind it."""
    return has_parts(value, 1 + len(kinds)) and all([_fits(part, kind) for part, kind in zip(value[1:], kinds)])


def names_in(value, kinds):
    """The names of nodes in value, which has the form of these kinds."""
    return [part for part, kind in zip(value[1:], kinds) if kind == "name"]
