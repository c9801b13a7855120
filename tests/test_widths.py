"""The widths of plans and the errors of width_of: points 16 to 20."""

import unittest

from deltamill.errors import BadPlan, LoopRule, NameTaken, NoColumn, UnknownTable, UnlikeWidths
from deltamill.plans import width_of
from deltamill.terms import col, num
from plan_samples import EVERY_KIND
from samples import GREAT, NO_NUMBERS, NO_ROWS, Odd, refused

A, B, C, X, Y = [("table", name) for name in "abcxy"]
WIDTHS = {"a": 2, "b": 2, "c": 3, "e": 0, "zz'": 7}
WORDS = ("choose", "map", "join", "plus", "less", "distinct", "without", "group", "top", "loop")

# Values of many kinds that are no plan, no tuple of tests, terms, pairs or columns, and no sort.
NO_TUPLES = (None, True, 0, 1, 1.5, "a", "", b"a", [], {}, {1}, Odd(), object, (None,), (True,), ("a",), ([],),
             (Odd(),), ((),), ((1,),), ((0, 1, 2, 3),))

BAD_NAMES = WORDS + ("", "'", "A", "aB", "abcdefghi", "abcdefghi'", "a''", "'a", "a'b", "a1", "1", "a_b", "a b", " a",
                     "a ", "a\n", "\u00e9", "a\u00df", "\u0430", None, 1, True, b"a", ("a",), ["a"], Odd())

BAD_COLUMNS = NO_NUMBERS + (-1, 100, GREAT, -GREAT)

BAD_TERMS = tuple(value for value in NO_ROWS if not isinstance(value, tuple)) + (
    (), (0,), (0, (), ()), [0, ()], (0, []), (0, None), (True, ()), (None, ()), ("1", ()), (1.0, ()), (Odd(), ()),
    (0, ((0,),)), (0, ((0, 1, 1),)), (0, ([0, 1],)), (0, (None,)), (0, (0, 1)), (0, ((0, 0),)), (0, ((0, True),)),
    (0, ((0, None),)), (0, ((0, 1.0),)), (0, ((1, 1), (0, 1))), (0, ((0, 1), (0, 1))), (0, ((0, 1), (0, 2))),
    (0, ((0, 1), (2, 1), (1, 1)))) + tuple((0, ((column, 1),)) for column in BAD_COLUMNS)


def bad_nodes():
    """Values that have none of the forms, their sub-plans aside."""
    yield from (value for value in NO_ROWS if not isinstance(value, tuple))
    yield from ((), (None,), ("table",), ("a",), (A,), (("table", "a"), "a"), ["table", "a"], ("Table", "a"), ("", A),
                ("tables", "a"), (["table"], "a"), ({}, A), (0, A), (Odd(), "a"), (True, A), (b"table", "a"), (None, A))
    for node in EVERY_KIND:
        yield node + (A,)
        yield node[:-1]
        yield list(node)
        for kind in ("Join", "x", "", None, 0, ["table"], Odd(), node[0] + " ", node[0].upper()):
            yield (kind,) + node[1:]
    for name in BAD_NAMES:
        yield ("table", name)
        yield ("loop", name, A, A)
    for wrong in NO_TUPLES:
        yield ("choose", A, wrong)
        yield ("map", A, wrong)
        yield ("join", A, B, wrong)
        yield ("without", A, B, wrong)
        yield ("group", A, wrong, ("count",))
        yield ("group", A, (), wrong)
        yield ("top", A, wrong, 1)
    for term in BAD_TERMS:
        yield ("map", A, (term,))
        yield ("map", A, (col(0), term))
        yield ("choose", A, ((term, "=", col(0)),))
        yield ("choose", A, ((col(0), "=", term),))
    yield from bad_tests_and_columns()


def bad_tests_and_columns():
    good = (col(0), "=", col(1))
    for op in ("==", "", ">", ">=", "!", "<>", "=<", " =", None, 0, True, ["="], ("=",), b"=", Odd()):
        yield ("choose", A, ((col(0), op, col(1)),))
    for test in ((), good[:2], good + (col(0),), list(good), None, "=", (good,)):
        yield ("choose", A, (test,))
        yield ("choose", A, (good, test))
    for column in BAD_COLUMNS:
        for kind in ("join", "without"):
            yield (kind, A, B, ((column, 0),))
            yield (kind, A, B, ((0, 0), (0, column)))
        yield ("group", A, (0, column), ("count",))
        yield ("top", A, (0, column), 1)
        for word in ("sum", "least", "greatest"):
            yield ("group", A, (), (word, column))
    for pair in ((), (0,), (0, 0, 0), [0, 0], None, 0):
        yield ("join", A, B, (pair,))
        yield ("without", A, B, (pair,))
    for sort in (("count", 0), ("sum",), ("sum", 0, 0), ("least", 0, 1), ("greatest",), ("Count",), ("most", 0), (),
                 ["count"], "count", ("",), (("count",),), (None,), (None, 0), (Odd(),), (Odd(), 0), (["sum"], 0),
                 (0, 0)):
        yield ("group", A, (0,), sort)
    for many in NO_NUMBERS + (0, -1, -GREAT):
        if many != 1 or isinstance(many, bool) or not isinstance(many, int):
            yield ("top", A, (0,), many)


class BadPlans(unittest.TestCase):
    def test_no_forms(self):
        for node in bad_nodes():
            refused(self, BadPlan, {"path": ()}, width_of, node, WIDTHS)

    def test_no_forms_inside(self):
        for node in bad_nodes():
            refused(self, BadPlan, {"path": (1, 0)}, width_of, ("join", A, ("distinct", node), ()), WIDTHS)
            refused(self, BadPlan, {"path": (0,)}, width_of, ("loop", "x", node, None), WIDTHS)

    def test_first_in_preorder(self):
        bad, wrong = ("table", "A"), ("map", ("top", A, (), 0), None)
        refused(self, BadPlan, {"path": ()}, width_of, ("choose", bad, None), WIDTHS)
        refused(self, BadPlan, {"path": ()}, width_of, ("loop", "X", bad, bad), WIDTHS)
        refused(self, BadPlan, {"path": (0,)}, width_of, ("plus", wrong, bad), WIDTHS)
        refused(self, BadPlan, {"path": (0, 0)}, width_of, ("plus", ("distinct", bad), wrong), WIDTHS)
        refused(self, BadPlan, {"path": (0, 1)}, width_of, ("less", ("plus", A, bad), wrong), WIDTHS)
        refused(self, BadPlan, {"path": (1,)}, width_of, ("less", ("plus", A, B), wrong), WIDTHS)

    def test_ahead_of_all_other_errors(self):
        bad = ("table", "no name")
        for plan in (("plus", ("table", "unknown"), bad), ("plus", ("map", A, (col(9),)), bad),
                     ("plus", ("plus", A, C), bad), ("plus", ("loop", "a", A, A), bad),
                     ("plus", ("loop", "x", A, ("less", X, X)), bad)):
            refused(self, BadPlan, {"path": (1,)}, width_of, plan, WIDTHS)
        refused(self, BadPlan, {"path": (0,)}, width_of, ("loop", "a", bad, A), WIDTHS)

    def test_values_of_any_kind_as_sub_plans(self):
        for node in EVERY_KIND:
            for position, sub in enumerate(node):
                if isinstance(sub, tuple) and sub and sub[0] in ("table", "join", "map", "loop", "plus"):
                    for wrong in (None, "a", ("a",), [], Odd(), (), 0):
                        path = (position - (2 if node[0] == "loop" else 1),)
                        plan = node[:position] + (wrong,) + node[position + 1:]
                        refused(self, BadPlan, {"path": path}, width_of, plan, WIDTHS)


class Widths(unittest.TestCase):
    def test_every_kind(self):
        told = [width_of(plan, WIDTHS) for plan in EVERY_KIND]
        self.assertEqual(told, [2, 2, 2, 0, 3, 4, 4, 2, 2, 2, 2, 2, 1, 4, 2, 2, 2, 2, 2, 2])

    def test_by_name(self):
        self.assertEqual(width_of(widths={"a": 5}, plan=A), 5)

    def test_each_node(self):
        e = ("table", "e")
        self.assertEqual(width_of(e, WIDTHS), 0)
        self.assertEqual(width_of(("join", e, C, ()), WIDTHS), 3)
        self.assertEqual(width_of(("join", C, A, ((2, 1),)), WIDTHS), 5)
        self.assertEqual(width_of(("without", C, A, ((2, 1),)), WIDTHS), 3)
        self.assertEqual(width_of(("without", A, C, ((1, 2),)), WIDTHS), 2)
        self.assertEqual(width_of(("map", e, (num(1), num(1))), WIDTHS), 2)
        self.assertEqual(width_of(("choose", C, ((col(2), "=", num(100)),)), WIDTHS), 3)
        self.assertEqual(width_of(("distinct", C), WIDTHS), 3)
        self.assertEqual(width_of(("plus", C, C), WIDTHS), 3)
        self.assertEqual(width_of(("less", C, C), WIDTHS), 3)
        self.assertEqual(width_of(("group", e, (), ("count",)), WIDTHS), 1)
        self.assertEqual(width_of(("group", C, (2, 2, 0, 1), ("sum", 2)), WIDTHS), 5)
        self.assertEqual(width_of(("top", C, (2,), 1), WIDTHS), 3)

    def test_names(self):
        for name in ("a", "zz'", "abcdefgh", "abcdefgh'", "table", "z", "count") + tuple(word + "'" for word in WORDS):
            self.assertEqual(width_of(("table", name), {name: 4}), 4)
            self.assertEqual(width_of(("loop", name, ("table", "start"), ("table", name)), {"start": 2}), 2)

    def test_the_last_column(self):
        self.assertEqual(width_of(("map", A, (col(99),)), {"a": 100}), 1)
        self.assertEqual(width_of(("join", A, A, ((99, 99),)), {"a": 100}), 200)

    def test_other_names_mean_nothing(self):
        self.assertEqual(width_of(A, {"a": 1, "b": 9, "x'": 3}), 1)
        self.assertEqual(width_of(("loop", "x", A, X), {"y": 1, "a": 3, "x'": 9}), 3)

    def test_ten_deep(self):
        plan = A
        for _ in range(60):
            plan = ("distinct", plan)
        self.assertEqual(width_of(plan, WIDTHS), 2)

    def test_the_dict_stays(self):
        widths = {"a": 2, "b": 2}
        width_of(EVERY_KIND[-1], widths)
        width_of(("loop", "x", A, ("plus", X, B)), widths)
        self.assertEqual(widths, {"a": 2, "b": 2})


class Columns(unittest.TestCase):
    def check(self, column, plan, path=()):
        refused(self, NoColumn, {"path": path, "column": column}, width_of, plan, WIDTHS)

    def test_choose(self):
        self.check(2, ("choose", A, ((col(2), "=", num(0)),)))
        self.check(7, ("choose", A, ((col(0), "=", col(7)),)))
        self.check(7, ("choose", A, ((col(1), "<", (0, ((0, 1), (7, 1), (9, 1)))), (col(5), "=", col(6)))))
        self.check(5, ("choose", A, ((col(5), "<", col(3)), (col(2), "=", col(6)))))
        self.check(3, ("choose", A, (((0, ((1, 1), (3, 1), (4, 1))), "<", col(2)),)))
        self.check(6, ("choose", A, ((col(1), "<", col(0)), (num(6), "=", col(6)), (col(2), "=", col(2)))))

    def test_map(self):
        self.check(2, ("map", A, (col(2),)))
        self.check(9, ("map", A, (col(0), (1, ((1, 1), (9, 1))), col(4))))
        self.check(0, ("map", ("table", "e"), (num(3), col(0))))
        self.check(99, ("map", A, (col(99),)))

    def test_join_and_without(self):
        for kind in ("join", "without"):
            self.check(2, (kind, A, C, ((2, 0),)))
            self.check(3, (kind, A, C, ((0, 3),)))
            self.check(2, (kind, C, A, ((0, 2),)))
            self.check(2, (kind, A, C, ((1, 2), (2, 3))))
            self.check(5, (kind, A, C, ((1, 5), (2, 3))))
            self.check(8, (kind, A, C, ((0, 0), (1, 1), (8, 9), (3, 4))))

    def test_group(self):
        self.check(2, ("group", A, (2,), ("count",)))
        self.check(4, ("group", A, (1, 4, 3), ("sum", 9)))
        for word in ("sum", "least", "greatest"):
            self.check(2, ("group", A, (0, 1), (word, 2)))
            self.check(5, ("group", A, (5,), (word, 2)))
        self.check(0, ("group", ("table", "e"), (0,), ("count",)))

    def test_top(self):
        self.check(2, ("top", A, (2,), 1))
        self.check(6, ("top", A, (0, 6, 5), 1))

    def test_paths(self):
        self.check(2, ("plus", ("distinct", ("top", A, (2,), 1)), B), (0, 0))
        self.check(3, ("join", A, ("map", ("join", A, B, ((0, 3),)), (col(9),)), ()), (1, 0))
        self.check(9, ("loop", "x", A, ("map", X, (col(9),))), (1,))
        self.check(2, ("loop", "x", ("map", A, (col(2),)), X), (0,))

    def test_the_own_table_has_the_width_of_the_start(self):
        self.check(1, ("loop", "x", ("map", A, (num(1),)), ("map", X, (col(1),))), (1,))
        self.assertEqual(width_of(("loop", "x", C, ("map", X, (col(2), col(2), col(2)))), WIDTHS), 3)


class Order(unittest.TestCase):
    def test_sub_plans_before_their_node(self):
        no_table = ("table", "q")
        for plan in (("map", no_table, (col(99),)), ("top", no_table, (9,), 1), ("choose", no_table, ())):
            refused(self, UnknownTable, {"path": (0,), "name": "q"}, width_of, plan, WIDTHS)
        for kind in ("join", "without"):
            refused(self, UnknownTable, {"path": (1,), "name": "q"}, width_of, (kind, A, no_table, ((9, 9),)), WIDTHS)
        for kind in ("plus", "less"):
            refused(self, NoColumn, {"path": (1,), "column": 2}, width_of, (kind, C, ("top", A, (2,), 1)), WIDTHS)

    def test_the_first_sub_plan_before_the_second(self):
        one, two = ("distinct", ("table", "p")), ("table", "q")
        for kind in ("plus", "less"):
            refused(self, UnknownTable, {"path": (0, 0), "name": "p"}, width_of, (kind, one, two), WIDTHS)
        for kind in ("join", "without"):
            refused(self, UnknownTable, {"path": (0, 0), "name": "p"}, width_of, (kind, one, two, ((9, 9),)), WIDTHS)
        refused(self, UnknownTable, {"path": (0, 0), "name": "p"}, width_of, ("loop", "x", one, two), WIDTHS)
        refused(self, UnknownTable, {"path": (1,), "name": "q"}, width_of, ("loop", "x", A, two), WIDTHS)

    def test_unlike_widths(self):
        for kind in ("plus", "less"):
            refused(self, UnlikeWidths, {"path": (), "left": 2, "right": 3}, width_of, (kind, A, C), WIDTHS)
            refused(self, UnlikeWidths, {"path": (0,), "left": 3, "right": 2},
                    width_of, ("distinct", (kind, C, A)), WIDTHS)
            refused(self, UnlikeWidths, {"path": (0,), "left": 3, "right": 2},
                    width_of, (kind, (kind, C, A), (kind, A, C)), WIDTHS)
        refused(self, UnlikeWidths, {"path": (), "left": 2, "right": 3}, width_of, ("loop", "x", A, C), WIDTHS)
        refused(self, UnlikeWidths, {"path": (), "left": 3, "right": 6},
                width_of, ("loop", "x", C, ("join", X, X, ())), WIDTHS)


class Tables(unittest.TestCase):
    def test_unknown_tables(self):
        refused(self, UnknownTable, {"path": (), "name": "q"}, width_of, ("table", "q"), WIDTHS)
        refused(self, UnknownTable, {"path": (), "name": "a'"}, width_of, ("table", "a'"), WIDTHS)
        refused(self, UnknownTable, {"path": (), "name": "a"}, width_of, A, {})

    def test_own_tables_outside_of_the_step(self):
        refused(self, UnknownTable, {"path": (0,), "name": "x"}, width_of, ("loop", "x", X, A), WIDTHS)
        refused(self, UnknownTable, {"path": (1,), "name": "x"}, width_of, ("plus", ("loop", "x", A, X), X), WIDTHS)
        refused(self, UnknownTable, {"path": (0, 1), "name": "x"},
                width_of, ("loop", "x", ("loop", "y", A, X), A), WIDTHS)
        refused(self, UnknownTable, {"path": (1, 0), "name": "y"},
                width_of, ("loop", "x", A, ("loop", "y", Y, X)), WIDTHS)
        refused(self, UnknownTable, {"path": (1, 1), "name": "y"},
                width_of, ("loop", "x", A, ("plus", ("loop", "y", X, Y), Y)), WIDTHS)

    def test_loops_inside_loops(self):
        inner = ("loop", "y", X, ("plus", ("plus", X, Y), B))
        self.assertEqual(width_of(("loop", "x", A, ("plus", inner, X)), WIDTHS), 2)
        wide = ("loop", "y", ("join", X, X, ()), ("map", Y, (col(3), col(2), col(1), col(0))))
        self.assertEqual(width_of(("loop", "x", A, ("map", wide, (col(3), col(0)))), WIDTHS), 2)
        self.assertEqual(width_of(("loop", "x", ("loop", "y", C, Y), X), WIDTHS), 3)

    def test_one_loop_after_the_other(self):
        self.assertEqual(width_of(("join", ("loop", "x", A, X), ("loop", "x", C, X), ()), WIDTHS), 5)


class Names(unittest.TestCase):
    def check(self, name, path, plan, widths=WIDTHS):
        refused(self, NameTaken, {"path": path, "name": name}, width_of, plan, widths)

    def test_a_name_of_the_widths(self):
        self.check("a", (), ("loop", "a", B, ("table", "a")))
        self.check("zz'", (), ("loop", "zz'", B, B))
        self.check("b", (1,), ("plus", A, ("loop", "b", A, A)))

    def test_a_loop_around(self):
        self.check("x", (1,), ("loop", "x", A, ("loop", "x", A, X)))
        self.check("x", (0,), ("loop", "x", ("loop", "x", A, X), X))
        self.check("x", (1, 1), ("loop", "x", A, ("loop", "y", X, ("loop", "x", A, A))))
        self.check("x", (1, 0), ("loop", "x", A, ("loop", "y", ("loop", "x", A, A), Y)))
        self.check("x", (0, 1), ("loop", "x", ("loop", "y", A, ("loop", "x", A, A)), A))
        self.check("x", (0, 0, 0), ("loop", "x", ("loop", "y", ("distinct", ("loop", "x", A, A)), A), A))

    def test_before_its_sub_plans(self):
        bad = ("table", "q")
        self.check("a", (), ("loop", "a", bad, bad))
        self.check("x", (1,), ("loop", "x", A, ("loop", "x", bad, bad)))
        self.check("a", (), ("loop", "a", A, ("less", C, A)))
        refused(self, UnknownTable, {"path": (0,), "name": "q"}, width_of, ("plus", bad, ("loop", "a", A, A)), WIDTHS)
        refused(self, UnknownTable, {"path": (0,), "name": "q"},
                width_of, ("loop", "x", bad, ("loop", "x", A, A)), WIDTHS)


class Rule(unittest.TestCase):
    def check(self, path, step):
        """The path is that of the node in the step that breaks the rule."""
        refused(self, LoopRule, {"path": (1,) + path}, width_of, ("loop", "x", A, step), WIDTHS)
        refused(self, LoopRule, {"path": (0, 1) + path}, width_of, ("distinct", ("loop", "x", A, step)), WIDTHS)

    def keeps(self, step):
        self.assertEqual(width_of(("loop", "x", A, step), WIDTHS), 2)

    def test_nodes_that_break_the_rule(self):
        self.check((), ("less", A, X))
        self.check((), ("less", X, A))
        self.check((), ("less", ("plus", A, X), A))
        self.check((), ("group", X, (0,), ("count",)))
        self.check((), ("group", ("distinct", ("plus", X, X)), (0,), ("least", 1)))
        self.check((), ("top", X, (), 1))
        self.check((), ("map", X, (col(0), (1, ((1, 1),)))))
        self.check((), ("map", X, ((0, ((1, -1),)), col(0))))
        self.check((), ("map", ("join", A, X, ()), ((0, ((0, 1), (1, 1))), num(4))))
        self.check((), ("without", A, X, ()))
        self.check((), ("without", X, ("choose", X, ()), ()))
        self.check((0,), ("plus", ("top", X, (), 1), A))

    def test_without_the_own_table(self):
        less = ("less", A, B)
        self.keeps(("plus", X, less))
        self.keeps(("plus", X, ("top", A, (), 1)))
        self.keeps(("plus", X, ("group", A, (0,), ("count",))))
        self.keeps(("plus", X, ("map", A, ((4, ((0, 7),)), col(0)))))
        self.keeps(("plus", X, ("without", A, less, ())))
        self.keeps(A)

    def test_what_may_contain_it(self):
        self.keeps(("without", X, A, ((0, 0),)))
        self.keeps(("distinct", ("choose", ("plus", X, X), (((5, ((0, 3), (1, -1))), "!=", num(2)),))))
        self.keeps(("map", ("join", X, X, ((0, 1),)), (col(3), num(-8))))
        self.keeps(("map", X, (num(0), col(1))))
        self.keeps(("loop", "y", X, ("plus", Y, X)))

    def test_the_first_in_preorder(self):
        self.check((0,), ("plus", ("less", X, A), ("less", X, A)))
        self.check((), ("less", ("top", X, (), 1), A))
        self.check((0, 1), ("plus", ("plus", X, ("top", X, (), 1)), ("less", X, A)))
        self.check((), ("without", ("less", X, A), X, ()))
        self.check((0,), ("without", ("less", X, A), A, ()))
        self.check((1,), ("plus", X, ("without", A, ("less", A, X), ())))

    def test_loops_inside(self):
        # The outer own table in the inner step.
        self.check((1,), ("loop", "y", A, ("less", X, A)))
        self.check((0,), ("loop", "y", ("top", X, (), 1), Y))
        self.check((1, 1), ("loop", "y", A, ("plus", Y, ("without", Y, X, ()))))
        # The inner rule is looked at first: sub-plans come before their node.
        plan = ("loop", "x", A, ("plus", ("less", X, X), ("loop", "y", A, ("top", Y, (), 1))))
        refused(self, LoopRule, {"path": (1, 1, 1)}, width_of, plan, WIDTHS)

    def test_other_errors_come_first(self):
        refused(self, UnlikeWidths, {"path": (), "left": 2, "right": 3},
                width_of, ("loop", "x", A, ("less", C, ("join", X, ("map", X, (col(0),)), ()))), WIDTHS)
        refused(self, NoColumn, {"path": (1,), "column": 2}, width_of, ("loop", "x", A, ("top", X, (2,), 1)), WIDTHS)
        refused(self, UnknownTable, {"path": (1, 1), "name": "q"},
                width_of, ("loop", "x", A, ("less", X, ("table", "q"))), WIDTHS)
        refused(self, LoopRule, {"path": (0, 1)}, width_of,
                ("plus", ("loop", "x", A, ("less", X, X)), ("table", "q")), WIDTHS)


if __name__ == "__main__":
    unittest.main()
