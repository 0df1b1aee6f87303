"""Texts of values that are made of tuples, integers, words and None."""

from bridgeward.errors import InvalidText
from bridgeward.values import read_integer

QUOTE = '"'
NONE = "none"
DEEPEST = 20


def told(value):
    """The text of the value."""
    if value is None:
        return NONE
    if isinstance(value, str):
        return QUOTE + value + QUOTE
    if not isinstance(value, tuple):
        return str(value)
    if len(value) == 1:
        return "(" + told(value[0]) + ",)"
    return "(" + ",".join([told(part) for part in value]) + ")"


def untold(text):
    """The value whose text this is."""
    value, end = _read_value(text, 0, DEEPEST)
    if end < len(text):
        raise InvalidText(text, end)
    return value


def _read_value(text, at, depth):
    """The value whose text begins at this place, and the place behind it; so many tuples may be within one another."""
    if text[at:at + 1] == "(":
        return _read_tuple(text, at, depth)
    if text[at:at + 1] == QUOTE:
        return _read_word(text, at)
    if text[at:at + len(NONE)] == NONE:
        return None, at + len(NONE)
    return _read_integer(text, at)


def _read_tuple(text, at, depth):
    """The tuple whose text begins at this place, and the place behind it."""
    if depth == 0:
        raise InvalidText(text, at)
    if text[at + 1:at + 2] == ")":
        return (), at + 2
    parts = []
    here = at
    while text[here:here + 1] != ")":
        part, here = _read_value(text, here + 1, depth - 1)
        parts.append(part)
        if len(parts) == 1 and text[here:here + 2] == ",)":
            return (part,), here + 2
        if text[here:here + 1] not in (",", ")"):
            raise InvalidText(text, here)
    if len(parts) == 1:
        raise InvalidText(text, here)
    return tuple(parts), here + 1


def _read_word(text, at):
    """The word between the quotation mark at this place and the next one, and the place behind it."""
    end = text.find(QUOTE, at + 1)
    if end <= at + 1 or not all([letter == " " or "a" <= letter <= "z" for letter in text[at + 1:end]]):
        raise InvalidText(text, at)
    return text[at + 1:end], end + 1


def _read_integer(text, at):
    """The integer whose figures begin at this place, and the place behind it."""
    end = at
    while text[end:end + 1] not in ("", ",", ")"):
        end += 1
    number = read_integer(text[at:end])
    if number is None:
        raise InvalidText(text, at)
    return number, end
