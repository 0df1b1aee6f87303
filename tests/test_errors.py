"""Point 3: the errors and what they keep."""

import unittest

from bridgeward import errors
from bridgeward.errors import WardError
from samples import ODD_VALUES

KEPT = {
    "InvalidGraph": ("value",), "InvalidText": ("text", "at"), "UnknownNode": ("name",), "UnknownEdge": ("label",),
    "Taken": ("name",), "InvalidNumber": ("value",), "Undefined": ("what",), "InvalidClaim": ("value",),
    "Refused": ("claim",), "InvalidQuestion": ("value",), "NotWatched": ("question",), "NothingToUndo": ("deed",),
    "InvalidEdit": ("value",),
}
CLASSES = {name: getattr(errors, name) for name in KEPT}


class TestErrors(unittest.TestCase):
    def test_all_stand_under_the_one(self):
        self.assertTrue(issubclass(WardError, ValueError))
        self.assertEqual(len(CLASSES), 13)
        for name, error in CLASSES.items():
            self.assertEqual(error.__name__, name)
            self.assertTrue(issubclass(error, WardError) and issubclass(error, ValueError), name)

    def test_none_stands_under_another_one(self):
        for one in CLASSES.values():
            self.assertEqual([other for other in CLASSES.values() if issubclass(one, other)], [one])

    def test_keep_what_they_are_made_with(self):
        for name, attributes in KEPT.items():
            for value in ODD_VALUES + [[[]], {}]:
                values = [value] + [7] * (len(attributes) - 1)
                by_place = CLASSES[name](*values)
                by_name = CLASSES[name](**dict(zip(attributes, values)))
                for error in (by_place, by_name):
                    self.assertIs(getattr(error, attributes[0]), value, name)
                    self.assertEqual(len(vars(error)), len(attributes))

    def test_text_and_place(self):
        for text in ODD_VALUES:
            for at in ODD_VALUES:
                error = errors.InvalidText(text, at=at)
                self.assertIs(error.text, text)
                self.assertIs(error.at, at)

    def test_wrong_arguments(self):
        for name, attributes in KEPT.items():
            with self.assertRaises(TypeError):
                CLASSES[name]()
            with self.assertRaises(TypeError):
                CLASSES[name](*range(len(attributes) + 1))

    def test_are_raised_and_caught(self):
        for name, attributes in KEPT.items():
            for family in (WardError, ValueError):
                with self.assertRaises(family):
                    raise CLASSES[name](*attributes)


if __name__ == "__main__":
    unittest.main()
