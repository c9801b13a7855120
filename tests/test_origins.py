"""Origins: point 32."""

import random
import unittest

from deltamill.bags import Bag
from deltamill.errors import NotPolynomial
from deltamill.origins import origin, origins
from deltamill.plain import answer
from deltamill.plans import degree, is_polynomial, walk_parts
from deltamill.polynomials import Polynomial
from deltamill.reader import read
from plan_samples import EVERY_KIND, WIDTHS, fitting_plan, some_bag, some_tables
from samples import GREAT, refused

POLYNOMIAL = ("choose", "map", "join", "plus", "less")


def token(name, *row):
    return Polynomial.of_token(name, row)


class Origins(unittest.TestCase):
    def test_example(self):
        told = origin(read("map[](join[0=0](a,a))"), {"a": Bag.of((1,), (2,))}, ())
        self.assertEqual(told.terms(), [((("a", (1,), 2),), 1), ((("a", (2,), 2),), 1)])

    def test_every_kind(self):
        tables = {"a": Bag([((1, 2), 5), ((2, 2), -3)]), "b": Bag([((2, 2), 2), ((3, 1), 1)])}
        one, two, three, four = token("a", 1, 2), token("a", 2, 2), token("b", 2, 2), token("b", 3, 1)
        for text, expected in (
                ("a", [((1, 2), one), ((2, 2), two)]),
                ("choose[c0=c1](a)", [((2, 2), two)]),
                ("choose[](a)", [((1, 2), one), ((2, 2), two)]),
                ("map[c1](a)", [((2,), one + two)]),
                ("map[c0,7](a)", [((1, 7), one), ((2, 7), two)]),
                ("map[](a)", [((), one + two)]),
                ("join[1=0](a,b)", [((1, 2, 2, 2), one * three), ((2, 2, 2, 2), two * three)]),
                ("join[0=0,1=1](a,a)", [((1, 2, 1, 2), one * one), ((2, 2, 2, 2), two * two)]),
                ("join[1=1](b,a)", [((2, 2, 1, 2), one * three), ((2, 2, 2, 2), two * three)]),
                ("plus(a,b)", [((1, 2), one), ((2, 2), two + three), ((3, 1), four)]),
                ("less(a,b)", [((1, 2), one), ((2, 2), two - three), ((3, 1), -four)]),
                ("plus(a,a)", [((1, 2), 2 * one), ((2, 2), 2 * two)]),
                ("less(a,a)", []),
                ("less(map[c1](a),map[c1](choose[c0=1](a)))", [((2,), two)]),
                ("map[c1](join[](map[c1](b),map[c0](a)))",
                 [((1,), one * (three + four)), ((2,), two * (three + four))])):
            self.assertEqual(origins(read(text), tables), expected, text)
            for row, polynomial in expected:
                self.assertEqual(origin(read(text), tables, row), polynomial)

    def test_rows_that_no_answer_has(self):
        tables = {"a": Bag.of((1,)), "b": Bag.of((1,))}
        for text, row in (("a", (2,)), ("a", ()), ("choose[c0=2](a)", (1,)), ("map[c0,0](a)", (1,)),
                          ("join[](a,b)", (1, 2)), ("less(a,a)", (1,)), ("c", (1,)), ("join[](a,c)", (1, 1))):
            told = origin(read(text), tables, row)
            self.assertIsInstance(told, Polynomial)
            self.assertEqual(told, Polynomial())

    def test_rows_whose_count_is_zero(self):
        tables = {"a": Bag.of((1,)), "b": Bag.of((1,))}
        self.assertEqual(answer(read("less(a,b)"), tables), Bag())
        self.assertEqual(origins(read("less(a,b)"), tables), [((1,), token("a", 1) - token("b", 1))])

    def test_the_value_is_the_count(self):
        chance = random.Random(1)
        for _ in range(400):
            plan = fitting_plan(chance, chance.randint(1, 4), kinds=POLYNOMIAL + ("table",))[0]
            tables = some_tables(chance, many=4)
            told = origins(plan=plan, tables=tables)
            self.assertTrue(all(isinstance(pair, tuple) for pair in told))
            rows = [row for row, _ in told]
            self.assertEqual(rows, sorted(set(rows)))
            self.assertNotIn(Polynomial(), [polynomial for _, polynomial in told])
            self.check(chance, plan, tables, told)
            for row, polynomial in told[:3]:
                self.assertEqual(origin(plan=plan, tables=tables, row=row), polynomial)

    def check(self, chance, plan, tables, told):
        """The values are the counts of the answer over the tables, and over others with no other rows."""
        others = {name: Bag([(row, chance.choice((-2, 0, 1, 3, GREAT))) for row, _ in bag.pairs()])
                  for name, bag in tables.items()}
        for given in (tables, others, {}):
            counted = Bag([(row, polynomial.value(given)) for row, polynomial in told])
            self.assertEqual(counted, answer(plan, given), plan)
        held = {(name, row) for name, bag in tables.items() for row, _ in bag.pairs()}
        for _, polynomial in told:
            self.assertTrue(set(polynomial.tokens()) <= held)
            self.assertLessEqual(polynomial.degree, degree(plan))

    def test_counts_mean_nothing(self):
        chance = random.Random(2)
        for _ in range(60):
            plan = fitting_plan(chance, 3, kinds=POLYNOMIAL)[0]
            tables = some_tables(chance)
            others = {name: Bag([(row, chance.choice((-7, 1, GREAT))) for row, _ in bag.pairs()])
                      for name, bag in tables.items()}
            self.assertEqual(origins(plan, tables), origins(plan, others))

    def test_not_polynomial(self):
        for plan in EVERY_KIND:
            if not is_polynomial(plan):
                path = [at for at, node in walk_parts(plan) if node[0] not in POLYNOMIAL + ("table",)][0]
                refused(self, NotPolynomial, {"path": path}, origins, plan, {})
                refused(self, NotPolynomial, {"path": path}, origin, plan, {}, ())
        for text, path in (("plus(a,distinct(a))", (1,)), ("plus(map[](distinct(a)),top[;1](a))", (0, 0)),
                           ("distinct(top[;1](a))", ()), ("join[](a,join[](b,group[;count](distinct(a))))", (1, 1)),
                           ("loop[x](a,distinct(x))", ()), ("choose[](without[](a,b))", (0,))):
            refused(self, NotPolynomial, {"path": path}, origins, read(text), {"a": Bag.of((1,))})
            refused(self, NotPolynomial, {"path": path}, origin, read(text), {"a": Bag.of((1,))}, (1,))

    def test_other_names_mean_nothing(self):
        tables = {"a": Bag.of((1,)), "zz": Bag.of((2,)), "b": None}
        self.assertEqual(origins(read("a"), tables), [((1,), token("a", 1))])

    def test_what_is_passed_stays(self):
        tables = {"a": Bag.of((1, 2), (2, 2))}
        told = origins(read("map[c1](a)"), tables)
        told.clear()
        self.assertEqual(tables, {"a": Bag.of((1, 2), (2, 2))})
        self.assertEqual(len(origins(read("map[c1](a)"), tables)), 1)

    def test_many_rows(self):
        chance = random.Random(3)
        tables = {name: some_bag(chance, 2, 0) + Bag([((at, at), 1) for at in range(200)]) for name in "ab"}
        told = origin(read("map[](join[](a,b))"), tables, ())
        self.assertEqual((len(told), told.value(tables)), (40000, 40000))
        self.assertEqual(WIDTHS["a"], 2)


if __name__ == "__main__":
    unittest.main()
