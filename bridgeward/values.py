"""The plain kinds of values that all other modules ask for."""

LONGEST_NAME = 8
MOST_FIGURES = 12


def is_integer(value):
    """Whether value is an int that is not a bool."""
    return isinstance(value, int) and not isinstance(value, bool)


def is_number(value):
    """Whether value is an integer from 0 on."""
    return is_integer(value) and value >= 0


def is_name(value):
    """Whether value is a string of 1 to 8 letters a to z."""
    if not isinstance(value, str) or not 1 <= len(value) <= LONGEST_NAME:
        return False
    return all(["a" <= letter <= "z" for letter in value])


def is_sequence(value):
    """Whether value is a list or a tuple."""
    return isinstance(value, (list, tuple))


def has_parts(value, many):
    """Whether value is a tuple of so many members."""
    return isinstance(value, tuple) and len(value) == many


def is_edge(value):
    """Whether value has the form of an edge, whatever nodes there are."""
    if not has_parts(value, 5):
        return False
    label, tail, head, price, room = value
    names_fit = is_name(label) and is_name(tail) and is_name(head)
    return names_fit and is_integer(price) and is_number(room)


def read_integer(word):
    """The integer that is written so, or None if none is."""
    figures = word.removeprefix("-")
    if not 1 <= len(figures) <= MOST_FIGURES:
        return None
    if not all(["0" <= figure <= "9" for figure in figures]):
        return None
    number = int(word)
    # A needless 0 and "-0" do not come back when the integer is written.
    return number if str(number) == word else None
