"""Unions as sets: points 40 to 42, and the refusals of point 45."""

import itertools
import random
import unittest

from deltamill.bags import Bag
from deltamill.errors import NotQuery, UnlikeWidths
from deltamill.kin import alike, contained, needless, parting, union_form
from deltamill.plain import answer
from deltamill.plans import tables_of
from deltamill.queries import members
from deltamill.reader import read
from by_hand import dict_of, dicts_of
from plan_samples import some_tables
from queries_by_hand import (SMALL, core_by_hand, images, least_by_hand, maps, put, query_by_hand, small_sums,
                             variables_in)
from samples import GREAT, refused

WIDTHS = dict(SMALL, c=3)

# Pairs of unions: whether the first one is contained in the second one, and the other way round.
PAIRS = (
    ("a", "a", True, True),
    ("a", "distinct(plus(a,a))", True, True),
    ("a", "b", False, False),
    ("a", "plus(a,b)", True, False),
    ("choose[c0=c1](a)", "a", True, False),
    ("choose[c0=5](a)", "a", True, False),
    ("choose[c0=5](a)", "choose[c0=4](a)", False, False),
    ("choose[c0=4&c0=5](a)", "b", True, False),
    ("choose[c0=4&c0=5](a)", "choose[1=2](b)", True, True),
    ("map[c0](join[1=0](a,a))", "map[c0](a)", True, False),
    ("map[c0](join[0=0](a,a))", "map[c0](a)", True, True),
    ("map[](a)", "map[](join[](a,a))", True, True),
    ("map[](a)", "map[](join[1=0](a,a))", False, True),
    ("map[](join[1=0,0=1](a,a))", "map[](join[1=0](a,a))", True, False),
    ("map[c1,c0](join[1=0,0=1](a,a))", "map[c1,c0](choose[c0=c1](a))", False, True),
    ("map[5](d)", "map[c0](d)", False, False),
    ("map[5](choose[c0=5](d))", "map[c0](d)", True, False),
    ("join[](e,d)", "d", True, False),
    ("plus(choose[c0=1](d),choose[c0=2](d))", "d", True, False),
    ("map[c0](join[](d,a))", "map[c0](join[](d,a))", True, True),
    # Each member of the first one goes into another member of the second one.
    ("plus(choose[c0=c1](a),b)", "plus(b,plus(a,a))", True, False),
    # No one member of the second one covers the first one for all tables.
    ("map[](a)", "plus(map[](choose[c0=c1](a)),map[](choose[c0=0](a)))", False, True),
)


def plain_rows(plan, tables):
    return set(dict_of(answer(plan, tables)))


def rows_in(tables):
    return sum(len(bag) for bag in tables.values())


def query_rows(queries, tables):
    return {row for query in queries for row in query_by_hand(query, dicts_of(tables))}


def numbers_in(queries):
    return sorted({term[1] for head, body in queries for terms in [head] + [terms for _, terms in body]
                   for term in terms if term[0] == "num"})


def all_tables(names, values, most):
    """All tables with at most so many rows of these values."""
    tokens = [(name, row) for name in names for row in itertools.product(values, repeat=SMALL[name])]
    for many in range(most + 1):
        for some in itertools.combinations(tokens, many):
            yield {name: Bag.of(*[row for table, row in some if table == name]) for name in names}


def frozen_tables(queries, numbers):
    """Tables of the images of the atoms of one query, where variables are these numbers or others, and the heads."""
    for query in queries:
        variables = variables_in(query)
        others = [1000 + at for at in range(len(variables))]
        for values in itertools.product(numbers + others, repeat=len(variables)):
            head, body = put(query, {at: ("num", value) for at, value in zip(variables, values)})
            made = {}
            for name, terms in body:
                made.setdefault(name, set()).add(tuple(term[1] for term in terms))
            yield {name: Bag.of(*rows) for name, rows in made.items()}, tuple(term[1] for term in head)


class Contained(unittest.TestCase):
    def test_pairs(self):
        for one, two, into, back in PAIRS:
            self.assertIs(contained(p=read(one), q=read(two), widths=WIDTHS), into, (one, two))
            self.assertIs(contained(read(two), read(one), WIDTHS), back, (one, two))
            self.assertIs(alike(p=read(one), q=read(two), widths=WIDTHS), into and back)
            self.assertIs(parting(read(one), read(two), WIDTHS) is None, into)

    def test_any_unions(self):
        chance = random.Random(401)
        held = 0
        plans = small_sums(chance, 250, "union", wide=1)
        for one, two in zip(plans, plans[1:]):
            first, second = members(one, SMALL), members(two, SMALL)
            expected = all(any(maps(other, query) for other in second) for query in first)
            self.assertIs(contained(one, two, SMALL), expected)
            held += expected
            self.assertIs(alike(one, two, SMALL),
                          expected and all(any(maps(other, query) for other in first) for query in second))
            tables = some_tables(chance, SMALL, many=5, counts=(1, 2))
            if expected:
                self.assertLessEqual(plain_rows(one, tables), plain_rows(two, tables))
        self.assertGreater(held, 10)


class Parting(unittest.TestCase):
    def check(self, one, two, widths=SMALL):
        """The tables and the row, after all that holds for them whatever they are."""
        told = parting(one, two, widths)
        self.assertIsInstance(told, tuple)
        tables, row = told
        self.assertEqual(sorted(tables), sorted(set(tables_of(one)) | set(tables_of(two))))
        for name, bag in tables.items():
            for found, count in bag.pairs():
                self.assertEqual((len(found), count), (widths[name], 1))
        self.assertIn(row, plain_rows(one, tables))
        self.assertNotIn(row, plain_rows(two, tables))
        return told

    def test_tables(self):
        tables, row = self.check(read("a"), read("choose[c0=c1](a)"))
        self.assertEqual((rows_in(tables), len(row)), (1, 2))
        tables, row = self.check(read("plus(d,map[0](e))"), read("d"))
        self.assertEqual((tables, row), ({"d": Bag(), "e": Bag.of(())}, (0,)))
        tables, row = self.check(read("e"), read("map[](d)"))
        self.assertEqual((tables, row), ({"d": Bag(), "e": Bag.of(())}, ()))
        # A table that is only in one of the plans has a bag too, though its query is left out.
        tables, row = self.check(read("d"), read("map[c0](choose[1=2](b))"))
        self.assertEqual((rows_in(tables), tables["b"]), (1, Bag()))

    def test_fewer_rows_than_atoms(self):
        # One row is enough where x and y are equal.
        tables, _ = self.check(read("map[](join[1=0](a,a))"), read("map[](choose[c0=7](a))"))
        self.assertEqual(rows_in(tables), 1)
        # Here a row with equal values would not part them.
        tables, _ = self.check(read("map[](join[1=0](a,a))"), read("map[](choose[c0=c1](a))"))
        self.assertEqual(rows_in(tables), 2)
        # A variable that is one of the numbers.
        tables, row = self.check(read("map[c0](join[](d,choose[c0=5](d)))"), read("map[c0](choose[c0=c1](a))"))
        self.assertEqual((tables["d"], row), (Bag.of((5,)), (5,)))
        # The second member needs fewer rows than the first one.
        tables, _ = self.check(read("plus(map[](join[](a,b)),map[](d))"), read("map[](join[](a,d))"))
        self.assertEqual(rows_in(tables), 1)

    def test_numbers_of_both(self):
        # No variable becomes a number of either plan by accident.
        for number in (0, 1, 2, 3, -1, GREAT, -GREAT):
            other = ("choose", ("table", "d"), (((0, ((0, 1),)), "=", (number, ())),))
            tables, row = self.check(("table", "d"), other)
            self.assertNotEqual(row, (number,))
        many = read("plus(choose[c0=0](d),plus(choose[c0=1](d),plus(choose[c0=-3](d),choose[c0=7](d))))")
        self.assertNotIn(self.check(read("d"), many)[1], [(0,), (1,), (-3,), (7,)])

    def test_no_tables_with_fewer_rows(self):
        chance = random.Random(402)
        lengths = []
        plans = small_sums(chance, 400, "union", wide=1, atoms=3, queries=3)
        for one, two in zip(plans, plans[1:]):
            if parting(one, two, SMALL) is None:
                continue
            tables, _ = self.check(one, two)
            lengths.append(rows_in(tables))
            first, second = members(one, SMALL), members(two, SMALL)
            for others, head in frozen_tables(first, numbers_in(first + second)):
                if rows_in(others) < rows_in(tables):
                    self.assertIn(head, query_rows(second, others))
        self.assertTrue({1, 2, 3} <= set(lengths))

    def test_no_tables_at_all_with_fewer_rows(self):
        # Over all tables of a few values, not only those that are made of atoms.
        chance = random.Random(403)
        tried = 0
        plans = small_sums(chance, 1500, "union", wide=0, atoms=3, queries=2)
        for one, two in zip(plans, plans[1:]):
            told = parting(one, two, SMALL)
            names = sorted(set(tables_of(one)) | set(tables_of(two)))
            if told is None or not 2 <= rows_in(told[0]) <= 3 or len(names) > 2:
                continue
            first, second = members(one, SMALL), members(two, SMALL)
            values = numbers_in(first + second)[:2] + [1000, 1001]
            for others in all_tables(names, values, rows_in(told[0]) - 1):
                self.assertFalse(query_rows(first, others) - query_rows(second, others))
            tried += 1
            if tried == 12:
                return
        self.assertGreater(tried, 5)


class UnionForm(unittest.TestCase):
    def test_example(self):
        plan = read("plus(map[c1](choose[c0=1](e)),map[c1](choose[c0=1&c1=5](e)))")
        self.assertEqual(union_form(plan, {"e": 2}), [((("var", 0),), (("e", (("num", 1), ("var", 0))),))])

    def test_forms(self):
        var = [("var", number) for number in range(3)]
        for text, expected in (
                ("d", [((var[0],), (("d", (var[0],)),))]),
                ("plus(d,d)", [((var[0],), (("d", (var[0],)),))]),
                ("choose[1=2](d)", []),
                ("map[](join[](d,choose[c0=4](d)))", [((), (("d", (("num", 4),)),))]),
                ("plus(d,choose[c0=4](d))", [((var[0],), (("d", (var[0],)),))]),
                ("map[c1](join[0=0](a,join[0=0](a,d)))", [((var[0],), (("a", (var[1], var[0])), ("d", (var[1],))))]),
                ("plus(map[](b),map[](a))", [((), (("a", (var[0], var[1])),)), ((), (("b", (var[0], var[1])),))]),
                # Both members contain each other: one form stands for them.
                ("plus(map[](join[](d,d)),map[](d))", [((), (("d", (var[0],)),))])):
            self.assertEqual(union_form(plan=read(text), widths=WIDTHS), expected, text)

    def test_any_unions(self):
        chance = random.Random(411)
        same = 0
        plans = small_sums(chance, 200, "union", wide=1)
        for at, plan in enumerate(plans):
            cores = []
            for query in members(plan, SMALL):
                head, body = query
                cores.append(least_by_hand((head, tuple(body[index] for index in core_by_hand(query)))
                                           if len(core_by_hand(query)) == len(body) else
                                           smaller(query, core_by_hand(query))))
            expected = [query for query in sorted(set(cores))
                        if not any(maps(other, query) and not maps(query, other) for other in cores)]
            self.assertEqual(union_form(plan, SMALL), expected, plan)
            for other in plans[max(0, at - 5):at]:
                self.assertIs(alike(plan, other, SMALL), union_form(other, SMALL) == expected)
                same += union_form(other, SMALL) == expected
        self.assertGreater(same, 10)


def smaller(query, indexes):
    """The query with these atoms alone and without gaps in the numbers of its variables."""
    made = (query[0], tuple(query[1][index] for index in indexes))
    return put(made, {number: ("var", at) for at, number in enumerate(variables_in(made))})


class Needless(unittest.TestCase):
    def check(self, plan, name, row, widths=SMALL):
        told = needless(plan, widths, name, row)
        self.assertIsInstance(told, tuple)
        tables, made = told
        self.assertEqual(sorted(tables), tables_of(plan))
        for table, bag in tables.items():
            for found, count in bag.pairs():
                self.assertEqual((len(found), count), (widths[table], 1))
        self.assertIn(row, tables[name])
        self.assertIn(made, plain_rows(plan, tables))
        without = dict(tables, **{name: tables[name] - Bag.of(row)})
        self.assertNotIn(made, plain_rows(plan, without))
        return told

    def test_needless(self):
        for text, name, row in (
                ("choose[c0=1](d)", "d", (2,)), ("choose[1=2](d)", "d", (2,)),
                ("choose[c0=c1](a)", "a", (1, 2)), ("a", "b", (1, 2)), ("a", "e", ()), ("a", "none", (5,)),
                ("a", "x", ()), ("plus(choose[c0=1](d),choose[c0=3](d))", "d", (2,)),
                # Where the row serves, the same row serves in a smaller member or another row does.
                ("plus(map[](e),map[](join[](e,d)))", "d", (0,)),
                ("plus(map[c0](a),map[c0](join[0=0](a,d)))", "d", (7,))):
            self.assertIsNone(needless(plan=read(text), widths=WIDTHS, name=name, row=row), text)

    def test_example(self):
        plan = read("plus(map[c1](choose[c0=1](e)),map[c1](choose[c0=1&c1=5](e)))")
        self.assertIsNone(needless(plan, {"e": 2}, "e", (2, 5)))
        self.assertEqual(needless(plan, {"e": 2}, "e", (1, 5)), ({"e": Bag.of((1, 5))}, (5,)))

    def test_tables(self):
        self.assertEqual(self.check(read("d"), "d", (4,)), ({"d": Bag.of((4,))}, (4,)))
        self.assertEqual(self.check(read("map[](e)"), "e", ()), ({"e": Bag.of(())}, ()))
        # One row can serve at several places at once.
        told = self.check(read("map[c0](join[1=0](a,a))"), "a", (3, 3))
        self.assertEqual(rows_in(told[0]), 1)
        told = self.check(read("map[c0](join[1=0](a,a))"), "a", (3, 4))
        self.assertEqual(rows_in(told[0]), 2)
        # The row alone makes nothing that another member does not make without it.
        told = self.check(read("plus(map[c0](join[0=0](d,a)),map[c0](join[0=0](d,choose[c1=1](a))))"), "a", (5, 1))
        self.assertEqual(told, ({"a": Bag.of((5, 1)), "d": Bag.of((5,))}, (5,)))
        # Without a second row of another kind the first member would make the row too.
        told = self.check(read("plus(map[](choose[c0=1](d)),map[](join[](choose[c0=2](d),choose[c0=3](d))))"), "d", (2,))
        self.assertEqual(told, ({"d": Bag.of((2,), (3,))}, ()))

    def test_the_row_at_one_place_alone(self):
        # In the first member the row of a serves too, and there the second member makes the same row without b.
        plan = read("plus(map[c0](join[1=0](a,b)),map[c0](a))")
        self.assertIsNone(needless(plan, SMALL, "b", (1, 1)))
        told = self.check(plan, "a", (1, 1))
        self.assertEqual(rows_in(told[0]), 1)

    def test_numbers_by_accident(self):
        plan = read("plus(map[c0](join[](d,choose[c0=9](d))),choose[c0=10](map[c0](b)))")
        for number in (0, 1, 9, 10, 11, GREAT):
            self.check(plan, "d", (number,))

    def test_no_tables_with_fewer_rows(self):
        chance = random.Random(421)
        lengths, none = [], 0
        for plan in small_sums(chance, 250, "union", atoms=3, queries=3):
            name = chance.choice(tables_of(plan))
            row = tuple(chance.randrange(3) for _ in range(SMALL[name]))
            queries = members(plan, SMALL)
            told = needless(plan, SMALL, name, row)
            most = 99
            if told is None:
                none += 1
            else:
                self.check(plan, name, row)
                most = rows_in(told[0])
                lengths.append(most)
            numbers = sorted(set(numbers_in(queries)) | set(row))
            for tables, head in frozen_tables(queries, numbers):
                if name in tables and row in tables[name] and rows_in(tables) < most:
                    without = dict(tables, **{name: tables[name] - Bag.of(row)})
                    self.assertIn(head, query_rows(queries, without), (plan, name, row))
        self.assertTrue({1, 2, 3} <= set(lengths))
        self.assertGreater(none, 20)

    def test_for_all_tables(self):
        # A needless row changes nothing where it is in the tables, whatever else is.
        chance = random.Random(422)
        tried = 0
        for plan in small_sums(chance, 300, "union"):
            name = chance.choice(tables_of(plan))
            row = tuple(chance.randrange(3) for _ in range(SMALL[name]))
            if needless(plan, SMALL, name, row) is None:
                tables = some_tables(chance, SMALL, many=4, counts=(1, 1, 2))
                tables[name] = tables[name].support() | Bag.of(row)
                without = dict(tables, **{name: tables[name] - Bag.of(row)})
                self.assertEqual(plain_rows(plan, tables), plain_rows(plan, without))
                tried += 1
        self.assertGreater(tried, 20)


class Refusals(unittest.TestCase):
    def test_no_unions(self):
        bad, worse, good = read("plus(d,less(d,d))"), read("group[;count](d)"), read("d")
        for call in (contained, alike, parting):
            refused(self, NotQuery, {"path": (1,)}, call, bad, worse, WIDTHS)
            refused(self, NotQuery, {"path": ()}, call, worse, bad, WIDTHS)
            refused(self, NotQuery, {"path": (1,)}, call, bad, read("a"), WIDTHS)
            refused(self, NotQuery, {"path": (1,)}, call, read("a"), bad, WIDTHS)
            refused(self, NotQuery, {"path": (1,)}, call, good, bad, WIDTHS)
        refused(self, NotQuery, {"path": (1,)}, union_form, bad, WIDTHS)
        refused(self, NotQuery, {"path": (1,)}, needless, bad, WIDTHS, "d", (1,))
        refused(self, NotQuery, {"path": (1,)}, needless, bad, WIDTHS, "none", (1,))
        refused(self, NotQuery, {"path": ()}, union_form, read("choose[c0!=1](d)"), WIDTHS)

    def test_unlike_widths(self):
        for call in (contained, alike, parting):
            refused(self, UnlikeWidths, {"path": (), "left": 1, "right": 2}, call, read("d"), read("a"), WIDTHS)
            refused(self, UnlikeWidths, {"path": (), "left": 6, "right": 0}, call, read("join[](c,c)"),
                    read("map[](d)"), WIDTHS)
            # Also where no member is left.
            refused(self, UnlikeWidths, {"path": (), "left": 1, "right": 2}, call, read("choose[1=2](d)"),
                    read("choose[1=2](a)"), WIDTHS)

    def test_what_is_passed_and_returned(self):
        widths = {"d": 1, "a": 2}
        told = parting(read("d"), read("map[c0](a)"), widths)
        told[0].clear()
        union_form(read("d"), widths).clear()
        self.assertEqual(sorted(parting(read("d"), read("map[c0](a)"), widths)[0]), ["a", "d"])
        self.assertEqual(widths, {"d": 1, "a": 2})
        self.assertEqual(len(union_form(read("d"), widths)), 1)

    def test_images(self):
        query = members(read("map[c0](a)"), SMALL)[0]
        self.assertEqual(len(list(images(query, query))), 4)


if __name__ == "__main__":
    unittest.main()
