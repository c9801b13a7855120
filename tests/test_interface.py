"""The names, arguments and places of the interface, for all modules that there are so far."""

import importlib
import inspect
import unittest

FUNCTIONS = {
    "moments": {"is_moment": "value axes", "before": "first second", "join_of": "first second",
                "meet_of": "first second", "closure": "moments", "corners": "moment"},
    "bags": {"is_row": "value"},
    "histories": {"first_difference": "first second front"},
    "terms": {"col": "column", "num": "number", "value_of": "term row", "values_of": "terms row", "holds": "tests row",
              "composed": "term terms", "is_plain": "term"},
    "plans": {"width_of": "plan widths", "walk_parts": "plan", "part_at": "plan path", "replaced": "plan path other",
              "tables_of": "plan", "substituted": "plan name other", "is_monotone": "plan", "is_polynomial": "plan",
              "degree": "plan"},
    "reader": {"show": "plan", "read": "text"},
    "plain": {"worked": "node *bags", "answer": "plan tables"},
    "rounds": {"rounds_of": "plan tables", "ranks": "plan tables"},
    "machines": {"machine_of": "node axes"},
    "origins": {"origin": "plan tables row", "origins": "plan tables"},
    "rules": {"fitting": "plan widths", "rewritten": "plan rule path widths", "normal": "plan widths",
              "replayed": "plan steps widths"},
    "deltas": {"change_plan": "plan"},
    "queries": {"summands": "plan widths", "members": "plan widths", "plan_of": "query", "least_form": "query",
                "mapping_of": "query other", "restricted": "query indexes", "core": "query"},
    "kin": {"contained": "p q widths", "alike": "p q widths", "parting": "p q widths", "union_form": "plan widths",
            "needless": "plan widths name row"},
    "counts": {"count_form": "plan widths", "same_counts": "p q widths", "count_parting": "p q widths",
               "news_paper": "plan widths first second"},
    "wanted": {"fitting_changes": "plan sightings offers", "clash_tree": "plan sightings offers given:()",
               "shows_clash": "tree plan sightings offers given:()", "settled": "plan sightings offers"},
    "desk": {"first_wrong": "axes widths plans log keep:20"}}

# For each class its arguments and its methods with theirs; a property has None.
CLASSES = {
    "fronts.Front": ("axes moments", {
        "moments": "", "advances": "other", "fold": "moment", "parting": "first second", "everything": "axes",
        "nothing": "axes", "__contains__": "x", "__len__": "", "__eq__": "other", "__and__": "other",
        "__or__": "other"}),
    "bags.Bag": ("pairs", {
        "of": "*rows", "pairs": "", "support": "", "total": None, "is_plain": None, "__add__": "other",
        "__sub__": "other", "__neg__": "", "__mul__": "other", "__rmul__": "other", "__and__": "other",
        "__or__": "other", "__abs__": "", "__eq__": "other", "__len__": "", "__contains__": "x", "__getitem__": "at"}),
    "histories.History": ("axes changes", {
        "changes": "", "moments": "", "at": "moment", "step": "moment", "folded": "front", "seen": "front",
        "of_answers": "axes answers", "__add__": "other", "__sub__": "other", "__neg__": "", "__mul__": "other",
        "__rmul__": "other", "__eq__": "other", "__len__": ""}),
    "base.Machine": (None, {
        "take": "side news", "close": "side front", "front_of": "side", "memory": "side", "kept": None}),
    "polynomials.Polynomial": ("terms", {
        "of_token": "name row", "of_number": "number", "terms": "", "tokens": "", "value": "tables",
        "changed": "name row by", "fixed": "name row count", "degree": None, "__add__": "other", "__sub__": "other",
        "__neg__": "", "__mul__": "other", "__rmul__": "other", "__pow__": "other", "__eq__": "other",
        "__len__": ""}),
    "mill.Mill": ("axes widths plans", {
        "tell": "news", "close": "moments *names", "forget": "moments *outputs", "table_front": "name",
        "output_front": "output", "output_since": "output", "answer": "output moment", "memory": "output path side",
        "twin": "", "kept": None}),
    "branches.Branches": ("widths tables names", {
        "put": "branch table row count", "drop": "branch", "merge": "branch", "merged": "some", "answer": "plan some",
        "news": "plan some", "clashes": ""}),
    "desk.Desk": ("axes widths plans keep:20", {
        "run": "line", "log": "", "attempt": "lines", "change_depth": "value", "depth": None})}


def argument(one):
    """One argument: with a star if it takes several, with its default value if it is passed by name alone."""
    kinds = inspect.Parameter
    if one.kind == kinds.KEYWORD_ONLY:
        return f"{one.name}:{one.default!r}"
    return ("*" if one.kind == kinds.VAR_POSITIONAL else "") + one.name


def arguments(function):
    """The arguments as one text."""
    return " ".join(argument(one) for one in inspect.signature(function).parameters.values()
                    if one.name not in ("self", "cls"))


class Interface(unittest.TestCase):
    def test_functions(self):
        for module, functions in FUNCTIONS.items():
            for name, expected in functions.items():
                function = getattr(importlib.import_module(f"deltamill.{module}"), name)
                self.assertEqual(function.__module__, f"deltamill.{module}", name)
                self.assertEqual(arguments(function), expected, name)

    def test_classes(self):
        for place, (expected, methods) in CLASSES.items():
            module, name = place.split(".")
            found = getattr(importlib.import_module(f"deltamill.{module}"), name)
            self.assertEqual(found.__module__, f"deltamill.{module}")
            if expected is not None:
                self.assertEqual(arguments(found), expected)
            for method, expected in methods.items():
                self.assertIn(method, vars(found), (name, method))
                if expected is None:
                    self.assertIsInstance(vars(found)[method], property, (name, method))
                else:
                    self.assertEqual(arguments(getattr(found, method)), expected, (name, method))

    def test_errors(self):
        errors = importlib.import_module("deltamill.errors")
        for error in vars(errors).values():
            if inspect.isclass(error) and error is not errors.MillError:
                self.assertTrue(issubclass(error, errors.MillError))


if __name__ == "__main__":
    unittest.main()
