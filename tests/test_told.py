"""Point 42: texts of values, and back."""

import itertools
import random
import unittest

from bridgeward.errors import InvalidText, WardError
from bridgeward.told import told, untold
from samples import WardCase, nested

FIGURES = set("0123456789")
LETTERS = set("abcdefghijklmnopqrstuvwxyz ")
# Values and their texts.
PAIRS = [
    (0, "0"), (7, "7"), (-7, "-7"), (10, "10"), (999999999999, "999999999999"), (-999999999999, "-999999999999"),
    (None, "none"), ("none", '"none"'), ("a", '"a"'), ("no way", '"no way"'), (" ", '" "'), ("  a ", '"  a "'),
    ("abcdefghijklmnopqrstuvwxyz", '"abcdefghijklmnopqrstuvwxyz"'), ((), "()"), ((1,), "(1,)"), ((1, 2), "(1,2)"),
    (((),), "((),)"), (((), ()), "((),())"), ((None,), "(none,)"), (("a", None, (3, (-4,))), '("a",none,(3,(-4,)))'),
    (("distance", "a", "b", -12), '("distance","a","b",-12)'),
]


def slow_values(text, depth=20):
    """The values, in a list, whose text this is: none or one."""
    if text == "none":
        return [None]
    if text[:1] == text[-1:] == '"' and len(text) > 2:
        return [text[1:-1]] if set(text[1:-1]) <= LETTERS else []
    if text[:1] != "(":
        figures = text[1:] if text[:1] == "-" else text
        fits = 0 < len(figures) < 13 and set(figures) <= FIGURES
        return [int(text)] if fits and text != "-0" and (figures == "0" or figures[0] != "0") else []
    if text[-1:] != ")" or depth == 0 or len(text) < 2:
        return []
    if text == "()":
        return [()]
    inner = text[1:-1]
    found = [(one,) for one in slow_values(inner[:-1], depth - 1)] if inner[-1] == "," else []
    return found + [values for values in slow_rows(inner, depth - 1) if len(values) > 1]


def slow_rows(text, depth):
    """All tuples of values whose texts, joined by commas, are this text."""
    rows = [(one,) for one in slow_values(text, depth)]
    for at, letter in enumerate(text):
        if letter == ",":
            for one in slow_values(text[:at], depth):
                rows += [(one, *rest) for rest in slow_rows(text[at + 1:], depth)]
    return rows


def random_value(dice, depth=4):
    kind = dice.randrange(6 if depth else 4)
    if kind == 0:
        return dice.choice([None, 0, -1, 5, 10 ** 12 - 1, 1 - 10 ** 12])
    if kind == 1:
        return dice.randint(-1000, 1000)
    if kind < 4:
        return "".join(dice.choice("abz ") for _ in range(dice.randint(1, 5)))
    return tuple(random_value(dice, depth - 1) for _ in range(dice.randint(0, 4)))


class TestTold(WardCase):
    def check_wrong(self, text):
        """The text tells nothing; the place that is kept lies within it or at its end."""
        with self.assertRaises(WardError) as caught:
            untold(text)
        self.assertIs(type(caught.exception), InvalidText)
        self.assertEqual(caught.exception.text, text)
        self.assertIs(type(caught.exception.at), int)
        self.assertTrue(0 <= caught.exception.at <= len(text), (text, caught.exception.at))

    def check_text(self, text):
        """The text is read as slowly."""
        due = slow_values(text)
        if due:
            self.assertEqual([repr(untold(text))], [repr(value) for value in due])
            self.assertEqual(told(due[0]), text)
        else:
            self.check_wrong(text)

    def test_pairs(self):
        for value, text in PAIRS:
            self.assertEqual(told(value), text)
            self.assertEqual(repr(untold(text)), repr(value))
            self.assertEqual(slow_values(text), [value])

    def test_random_values(self):
        dice = random.Random(5)
        for _ in range(2000):
            value = random_value(dice)
            self.assertEqual(repr(untold(told(value))), repr(value))

    def test_all_short_texts(self):
        for many in range(7):
            for letters in itertools.product('(),"a1', repeat=many):
                self.check_text("".join(letters))
        for many in range(5):
            for letters in itertools.product('(),"-01b n', repeat=many):
                self.check_text("".join(letters))

    def test_changed_texts(self):
        dice = random.Random(8)
        for _ in range(1500):
            text = told(random_value(dice, 3))
            at = dice.randint(0, len(text))
            for other in (text[:at] + dice.choice('(),"-01a n\n') + text[at:], text[:at] + text[at + 1:], text[:at], text[at:]):
                if len(other) < 40:
                    self.check_text(other)

    def test_nested(self):
        for depth in range(1, 21):
            value = nested(depth)
            self.assertEqual(untold(told(value)), value)
            text = "(" * depth + "1" + ",)" * depth
            self.assertEqual(told(untold(text)), text)
        for depth in (21, 22, 50, 9000):
            self.check_wrong("(" * depth + ")" + ",)" * (depth - 1))
            self.check_wrong("(" * depth + "1" + ",)" * depth)
            self.check_wrong("(" * depth)
        deep = told(nested(19))
        self.assertEqual(untold("(" + deep + "," + deep + ")"), (nested(19), nested(19)))
        self.check_wrong("((" + deep + "," + deep + "),)")

    def test_integers(self):
        for text in (
            "-0", "00", "01", "-01", "-", "--1", "+1", "1-", "1 ", " 1", "1_0", "1000000000000", "-1000000000000", "0x1", "1.0",
            "1e3", "0000000000001", "\u0661", "\u00b2", "1" * 5000, "\uff11",
        ):
            self.check_wrong(text)
            self.check_wrong("(" + text + ",)")
            self.check_wrong("(1," + text + ")")

    def test_words(self):
        for text in (
            '""', '"', '"a', 'a"', 'a', '"A"', '"a1"', '"a-b"', '"a\n"', '"\t"', '"\u00e9"', '"a""b"', '"a"b', "'a'", '"a,b"',
            '"(a)"', '"a\u00a0b"', '"a\\"', "nones", "Nona", "None", "non", "nonenone", "none ", "null", "True",
        ):
            self.check_wrong(text)
            self.check_wrong("(" + text + ",)")
            self.check_wrong("(none," + text + ")")

    def test_tuples(self):
        for text in (
            "", "(", ")", "(1)", "(1,2,)", "(,)", "(,1)", "(1,,2)", "(1,", "(1", "(1,2", "(1;2)", "(1, 2)", "( )", "( 1,)", "(1 ,)",
            "(1,) ", " (1,)", "(1,)(1,)", "()()", "(),", "()1", "[1,2]", "(()", "())", "(1,2))", "((1,2)", "((1,2))",
            "(()())", '("a""b")', '("a"1)', "(1(2,))", "(,", "(()", "(,,)", "(1,)\n", "\n", "(1,)0", "(1,),",
        ):
            self.check_wrong(text)

    def test_long_texts(self):
        for value in (tuple(range(3000)), ("a",) * 5000, ((("b", 1), None),) * 1000, "a" * 19000):
            text = told(value)
            self.assertEqual(untold(text), value)
            self.check_wrong(text[:-1])
            self.check_wrong(text + ")")


if __name__ == "__main__":
    unittest.main()
