"""The document's examples, as they stand there (examples.txt)."""

import pathlib
import unittest

import bridgeward.errors
from bridgeward.errors import WardError

EXAMPLES = pathlib.Path(__file__).with_name("examples.txt").read_text(encoding="utf-8")


class TestExamples(unittest.TestCase):
    def check_error(self, call, space, told):
        due = eval(told, dict(vars(bridgeward.errors)))
        with self.assertRaises(WardError) as caught:
            eval(call, space)
        self.assertIs(type(caught.exception), type(due))
        self.assertEqual(vars(caught.exception), vars(due))

    def check_example(self, lines):
        *deeds, call = [line.removeprefix(">>> ") for line in lines[:-1]]
        space = {}
        for deed in deeds:
            exec(deed, space)
        if lines[-1].startswith("raises "):
            self.check_error(call, space, lines[-1].removeprefix("raises "))
        else:
            result = eval(call, space)
            self.assertEqual(result, eval(lines[-1]))
            self.assertEqual(repr(result), lines[-1])

    def test_examples(self):
        examples = EXAMPLES.strip().split("\n\n")
        self.assertGreaterEqual(len(examples), 139)
        for example in examples:
            with self.subTest(example=example):
                self.check_example(example.split("\n"))


if __name__ == "__main__":
    unittest.main()
