"""Tests of viewstrike.errors: base classes, attributes, and that none stands under another."""

import inspect
import unittest

from viewstrike import errors

LISTED = {
    ValueError: {
        "InvalidQuery": ("index",),
        "InvalidRules": ("index",),
        "InvalidStore": ("table", "row"),
        "InvalidStrike": ("index",),
        "InvalidPrices": ("table",),
        "InvalidRow": (),
        "InvalidAnswer": (),
        "InvalidClaim": (),
        "ParseError": ("line",),
    },
    LookupError: {"NoAnswer": ("index",), "NotThere": ()},
    RuntimeError: {
        "AlreadyThere": (),
        "RuleBroken": ("number",),
        "AnswerLost": ("index",),
        "AnswerBarred": ("index",),
        "CannotTake": (),
        "Refused": ("index", "reason"),
        "NothingDone": (),
    },
    OverflowError: {"TableFull": ("table",), "TooMany": ("number",)},
}
ROWS = [(base, name, names) for base, told in LISTED.items() for name, names in told.items()]
VALUES = {"index": 3, "table": 2, "row": None, "line": 7, "number": 41, "reason": "NotThere"}


def defined_classes():
    return {name: thing for name, thing in vars(errors).items() if inspect.isclass(thing)}


class ErrorsTest(unittest.TestCase):
    def test_exactly_the_listed_classes_are_there(self):
        self.assertEqual(sorted(defined_classes()), sorted([name for _, name, _ in ROWS]))

    def test_each_is_defined_in_this_file(self):
        for name, thing in defined_classes().items():
            self.assertEqual(thing.__module__, "viewstrike.errors", name)

    def test_each_is_a_direct_subclass_of_its_base_alone(self):
        for base, name, _ in ROWS:
            self.assertEqual(getattr(errors, name).__bases__, (base,), name)

    def test_none_is_a_subclass_of_another(self):
        classes = list(defined_classes().values())
        for one in classes:
            self.assertEqual([other for other in classes if issubclass(one, other)], [one])

    def test_attributes_are_set_by_position(self):
        for _, name, names in ROWS:
            error = getattr(errors, name)(*[VALUES[word] for word in names])
            self.assertEqual(vars(error), {word: VALUES[word] for word in names}, name)

    def test_attributes_are_set_by_name(self):
        for _, name, names in ROWS:
            told = {word: VALUES[word] for word in names}
            self.assertEqual(vars(getattr(errors, name)(**told)), told, name)

    def test_attributes_are_left_as_they_are(self):
        for _, name, names in ROWS:
            for value in (None, -1, 0, True, "x", [1]):
                error = getattr(errors, name)(*[value for _ in names])
                for word in names:
                    self.assertIs(getattr(error, word), value, name)

    def test_arguments_are_needed(self):
        for _, name, names in ROWS:
            if names:
                self.assertRaises(TypeError, getattr(errors, name))
                self.assertRaises(TypeError, getattr(errors, name), *names, 1)

    def test_each_can_be_raised_and_caught_by_its_base(self):
        for base, name, names in ROWS:
            with self.assertRaises(base) as caught:
                raise getattr(errors, name)(*names)
            self.assertIs(type(caught.exception), getattr(errors, name))
            self.assertIsInstance(str(caught.exception), str)


if __name__ == "__main__":
    unittest.main()
