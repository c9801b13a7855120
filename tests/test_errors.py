"""The error classes of the interface: their bases, what they are called with, and their attributes."""

import inspect
import unittest

from deltamill import errors
from deltamill.errors import MillError

# The base class and the names of the arguments of each error.
ERRORS = {
    "MomentError": ("MillError", ("moment",)),
    "PlanError": ("MillError", ("path",)),
    "NameMissing": ("MillError", ("name",)),
    "ValueRefused": ("MillError", ("value",)),
    "UnlikeAxes": ("MillError", ("left", "right")),
    "TooMany": ("MillError", ("limit",)),
    "NoStep": ("MillError", ("rule", "path")),
    "BadSteps": ("MillError", ("index",)),
    "Refused": ("MillError", ("index", "reply")),
    "NothingToUndo": ("MillError", ()),
    "NothingToRedo": ("MillError", ()),
    "BadLine": ("MillError", ()),
    "UnknownTable": ("PlanError", ("path", "name")),
    "NameTaken": ("PlanError", ("path", "name")),
    "NoColumn": ("PlanError", ("path", "column")),
    "UnlikeWidths": ("PlanError", ("path", "left", "right")),
}
for _name in ("BadMoment", "DoubleMoment", "TooLate", "StillOpen", "Forgotten", "NotAdvanced"):
    ERRORS[_name] = ("MomentError", ("moment",))
for _name in ("BadPlan", "LoopRule", "NoPart", "NotPolynomial", "NotMonotone", "NotQuery"):
    ERRORS[_name] = ("PlanError", ("path",))
for _name in ("NoTable", "NoOutput", "NoBranch"):
    ERRORS[_name] = ("NameMissing", ("name",))
for _name in ("BadAxes", "BadRow", "BadCount", "BadText", "BadDepth", "NoSide"):
    ERRORS[_name] = ("ValueRefused", ("value",))

VALUES = ((0, 1), "a'", [1], None, True, 7, (), {"a": 1})


class ErrorClasses(unittest.TestCase):
    def test_base_class(self):
        self.assertTrue(issubclass(MillError, ValueError))
        self.assertEqual(MillError.__bases__, (ValueError,))

    def test_bases(self):
        for name, (base, _) in ERRORS.items():
            self.assertEqual(getattr(errors, name).__bases__, (getattr(errors, base),), name)

    def test_no_other_subclasses(self):
        for name, (base, _) in ERRORS.items():
            for other in ERRORS:
                listed = other in (name, base)
                self.assertIs(issubclass(getattr(errors, name), getattr(errors, other)), listed, (name, other))

    def test_no_other_classes(self):
        found = [name for name, value in vars(errors).items() if inspect.isclass(value)]
        self.assertEqual(sorted(found), sorted(list(ERRORS) + ["MillError"]))

    def test_defined_in_the_file(self):
        for name in ERRORS:
            self.assertEqual(getattr(errors, name).__module__, "deltamill.errors")

    def test_attributes_by_position(self):
        for name, (_, words) in ERRORS.items():
            for shift in range(len(VALUES)):
                given = [VALUES[(shift + k) % len(VALUES)] for k in range(len(words))]
                error = getattr(errors, name)(*given)
                for word, value in zip(words, given):
                    self.assertIs(getattr(error, word), value, (name, word))

    def test_attributes_by_name(self):
        for name, (_, words) in ERRORS.items():
            given = {word: VALUES[k] for k, word in enumerate(words)}
            error = getattr(errors, name)(**given)
            self.assertEqual(vars(error), given, name)

    def test_wrong_numbers_of_arguments(self):
        for name, (_, words) in ERRORS.items():
            if words:
                with self.assertRaises(TypeError):
                    getattr(errors, name)(*range(len(words) - 1))
                with self.assertRaises(TypeError):
                    getattr(errors, name)(*range(len(words) + 1))

    def test_caught_by_the_base(self):
        for name, (base, words) in ERRORS.items():
            for kind in (name, base, "MillError"):
                with self.assertRaises(getattr(errors, kind)):
                    raise getattr(errors, name)(*VALUES[:len(words)])
            with self.assertRaises(ValueError):
                raise getattr(errors, name)(*VALUES[:len(words)])


if __name__ == "__main__":
    unittest.main()
