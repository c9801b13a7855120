"""Branches: points 53 to 55."""

import itertools
import random
import unittest

from deltamill.bags import Bag
from deltamill.branches import Branches
from deltamill.errors import BadCount, BadRow, NoBranch, NoTable
from deltamill.plans import degree
from deltamill.reader import read
from by_hand import dict_of, dicts_of, plan_by_hand
from plan_samples import WIDTHS, fitting_plan, growing_loop, some_bag, some_tables
from samples import GREAT, NO_NUMBERS, NO_ROWS, Odd, refused

POLYNOMIAL = ("table", "choose", "map", "join", "plus", "less")


def subsets(names):
    for many in range(len(names) + 1):
        yield from itertools.combinations(sorted(names), many)


def added(base, *changes):
    """Tables of dicts of counts with changes added."""
    made = {name: dict(counts) for name, counts in base.items()}
    for change in changes:
        for name, counts in change.items():
            for row, count in counts.items():
                made[name][row] = made[name].get(row, 0) + count
    return {name: {row: count for row, count in counts.items() if count} for name, counts in made.items()}


def some_branches(chance, names, widths=WIDTHS, many=5):
    """Branches, the dicts of the base tables and for each branch the dicts of its changes."""
    tables = some_tables(chance, widths)
    made = Branches(widths, tables, names)
    changes = {name: {table: {} for table in widths} for name in names}
    for name in names:
        for _ in range(chance.randint(0, many)):
            table = chance.choice(sorted(widths))
            for row, count in some_bag(chance, widths[table], 2).pairs():
                made.put(name, table, row, count)
                counts = changes[name][table]
                counts[row] = counts.get(row, 0) + count
    return made, dicts_of(tables), changes


class Changes(unittest.TestCase):
    def setUp(self):
        self.tables = {"a": Bag.of((1, 2)), "other": Bag.of((9,))}
        self.made = Branches({"a": 2, "b": 0}, self.tables, ["one", "two"])

    def test_merged(self):
        self.assertIsNone(self.made.put(branch="one", table="a", row=(1, 2), count=2))
        self.made.put("one", "a", (1, 2), -5)
        self.made.put("one", "b", (), GREAT)
        self.made.put("two", "a", (3, 4), 1)
        self.assertEqual(self.made.merged([]), {"a": Bag.of((1, 2)), "b": Bag()})
        self.assertEqual(self.made.merged(some=["one"]), {"a": Bag([((1, 2), -2)]), "b": Bag([((), GREAT)])})
        both = {"a": Bag([((1, 2), -2), ((3, 4), 1)]), "b": Bag([((), GREAT)])}
        for some in (["one", "two"], ["two", "one"], ["two", "one", "two", "two"]):
            self.assertEqual(self.made.merged(some), both)

    def test_drop_and_merge(self):
        self.made.put("one", "a", (1, 2), 2)
        self.made.put("two", "b", (), 3)
        self.assertIsNone(self.made.merge(branch="one"))
        self.assertEqual(self.made.merged([]), {"a": Bag([((1, 2), 3)]), "b": Bag()})
        self.assertEqual(self.made.merged(["one"]), self.made.merged([]))
        self.assertIsNone(self.made.drop(branch="two"))
        self.assertEqual(self.made.merged(["one", "two"]), self.made.merged([]))
        self.made.put("one", "a", (1, 2), -3)
        self.assertEqual(self.made.merged(["one"]), {"a": Bag(), "b": Bag()})
        self.made.drop("one")
        self.made.drop("one")
        self.made.merge("one")
        self.assertEqual(self.made.merged(["one"])["a"], Bag([((1, 2), 3)]))

    def test_refusals_of_put(self):
        put = self.made.put
        for branch in ("three", "a", "", Odd(), None, ("one",), ["one"]):
            refused(self, NoBranch, {"name": branch}, put, branch, "none", None, None)
        for table in ("one", "other", "", Odd(), None, ["a"]):
            refused(self, NoTable, {"name": table}, put, "one", table, None, None)
        for row in NO_ROWS + ((), (1,), (1, 2, 3)):
            refused(self, BadRow, {"value": row}, put, "one", "a", row, None)
        for count in NO_NUMBERS:
            refused(self, BadCount, {"value": count}, put, "one", "a", (1, 2), count)
        self.assertEqual(self.made.merged(["one"]), self.made.merged([]))

    def test_refusals_of_names(self):
        self.made.put("one", "a", (1, 2), 1)
        for call in (self.made.drop, self.made.merge):
            for branch in ("three", "a", "", Odd(), None, ["one"]):
                refused(self, NoBranch, {"name": branch}, call, branch)
        for some, wrong in ((["three"], "three"), (["one", "a", "three"], "a"), (["two", "x", "one", "y"], "x"),
                            (["three", "a"], "three"), (["one", "two", "z", "a", "z"], "z")):
            refused(self, NoBranch, {"name": wrong}, self.made.merged, some)
            refused(self, NoBranch, {"name": wrong}, self.made.answer, read("a"), some)
            refused(self, NoBranch, {"name": wrong}, self.made.news, read("a"), some)
        self.assertEqual(self.made.merged(["one"])["a"], Bag([((1, 2), 2)]))

    def test_what_is_passed_and_returned(self):
        widths, names = {"a": 2}, ["one"]
        made = Branches(widths=widths, tables=self.tables, names=names)
        widths["c"] = 1
        names.append("two")
        self.tables["a"] = Bag()
        refused(self, NoTable, {"name": "c"}, made.put, "one", "c", (1,), 1)
        refused(self, NoBranch, {"name": "two"}, made.drop, "two")
        told = made.merged([])
        self.assertEqual(told, {"a": Bag.of((1, 2))})
        told["a"] = Bag()
        self.assertEqual(made.merged([]), {"a": Bag.of((1, 2))})
        some = ["one", "one"]
        made.news(read("a"), some)
        self.assertEqual((some, self.tables), (["one", "one"], {"a": Bag(), "other": Bag.of((9,))}))

    def test_any_changes(self):
        chance = random.Random(531)
        for _ in range(40):
            names = chance.sample(("a", "b", "left", "right"), chance.randint(1, 4))
            made, base, changes = some_branches(chance, names)
            for _ in range(3):
                name = chance.choice(names)
                if chance.random() < 0.5:
                    made.merge(name)
                    base = added(base, changes[name])
                else:
                    made.drop(name)
                changes[name] = {table: {} for table in WIDTHS}
                for some in subsets(names):
                    expected = added(base, *[changes[one] for one in some])
                    self.assertEqual(dicts_of(made.merged(list(some))), expected)


class News(unittest.TestCase):
    def test_a_join(self):
        made = Branches({"a": 1, "b": 1}, {"a": Bag.of((1,))}, ["one", "two"])
        made.put("one", "a", (2,), 1)
        made.put("two", "b", (3,), 1)
        plan = read("join[](a,b)")
        self.assertEqual(made.answer(plan=plan, some=["one", "two"]), Bag.of((1, 3), (2, 3)))
        self.assertEqual(made.news(plan=plan, some=["two", "one", "two"]), Bag.of((2, 3)))
        self.assertEqual(made.news(plan, ["two"]), Bag.of((1, 3)))
        self.assertEqual(made.news(plan, ["one", "one"]), Bag())
        self.assertEqual(made.news(read("a"), []), Bag.of((1,)))
        self.assertEqual(made.answer(read("a"), []), Bag.of((1,)))

    def test_any_plan(self):
        chance = random.Random(541)
        for _ in range(60):
            names = chance.sample(("a", "b", "left", "right"), chance.randint(1, 4))
            made, base, changes = some_branches(chance, names)
            plan = growing_loop(chance, 2) if chance.random() < 0.3 else fitting_plan(chance, 4)[0]
            news = {}
            for some in subsets(names):
                tables = added(base, *[changes[one] for one in some])
                told = made.answer(plan, chance.sample(some, len(some)))
                self.assertEqual(dict_of(told), plan_by_hand(plan, tables))
                # What is not told by smaller sets.
                news[some] = told
                for less in subsets(some):
                    if less != some:
                        news[some] = news[some] - news[less]
                self.assertEqual(made.news(plan, list(some) + list(some)[:1]), news[some], (plan, some))

    def test_more_branches_than_the_degree(self):
        chance = random.Random(542)
        told = 0
        for _ in range(80):
            plan = fitting_plan(chance, 3, kinds=POLYNOMIAL)[0]
            made, _, _ = some_branches(chance, ["a", "b", "c", "d"])
            for some in subsets("abcd"):
                if len(some) > degree(plan):
                    self.assertEqual(made.news(plan, list(some)), Bag())
                elif len(some) > 1 and len(made.news(plan, list(some))):
                    told += 1
        self.assertGreater(told, 10)


class Clashes(unittest.TestCase):
    def test_least_sets(self):
        base = {"a": Bag([((1,), 1), ((2,), -1), ((3,), 1), ((4,), 1)])}
        made = Branches({"a": 1, "b": 1}, base, ["x", "y", "z"])
        self.assertEqual(made.clashes(), [("a", (2,), ())])
        for branch in "xyz":
            made.put(branch, "a", (1,), -1)
            made.put(branch, "a", (2,), -1)
        made.put("z", "a", (3,), -2)
        made.put("y", "a", (3,), -1)
        made.put("x", "a", (3,), -1)
        made.put("y", "b", (0,), -1)
        made.put("x", "b", (0,), 1)
        made.put("z", "a", (4,), 5)
        self.assertEqual(made.clashes(), [
            ("a", (1,), ("x", "y")), ("a", (1,), ("x", "z")), ("a", (1,), ("y", "z")), ("a", (2,), ()),
            ("a", (3,), ("x", "y")), ("a", (3,), ("z",)), ("b", (0,), ("y",))])
        made.merge("x")
        self.assertEqual(made.clashes(), [
            ("a", (1,), ("y",)), ("a", (1,), ("z",)), ("a", (2,), ()), ("a", (3,), ("y",)), ("a", (3,), ("z",))])

    def test_any_branches(self):
        chance = random.Random(551)
        sizes = set()
        for _ in range(150):
            names = chance.sample(("b", "a", "left", "right"), chance.randint(1, 4))
            made, base, changes = some_branches(chance, names, {"d": 1, "a": 1, "e": 0}, 8)
            expected = []
            for table in ("a", "d", "e"):
                rows = set(base[table]) | {row for name in names for row in changes[name][table]}
                for row in rows:
                    bad = [some for some in subsets(names)
                           if added(base, *[changes[one] for one in some])[table].get(row, 0) < 0]
                    expected.extend((table, row, some) for some in bad
                                    if not any(set(other) < set(some) for other in bad))
            told = made.clashes()
            self.assertEqual(told, sorted(expected))
            sizes |= {len(clash[2]) for clash in told}
        self.assertTrue({0, 1, 2} <= sizes)


if __name__ == "__main__":
    unittest.main()
