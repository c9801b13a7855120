"""Terms and tests: points 16 and 17."""

import itertools
import random
import unittest

from deltamill.terms import col, composed, holds, is_plain, num, value_of, values_of
from samples import GREAT


def some_term(chance, columns):
    """A term over columns below the number."""
    used = sorted(chance.sample(range(columns), chance.randint(0, min(3, columns))))
    parts = tuple((column, chance.choice((-GREAT, -2, -1, 1, 2, 5))) for column in used)
    return (chance.choice((-3, 0, 0, 1, GREAT)), parts)


def some_row(chance, width):
    return tuple(chance.choice((-GREAT, -2, -1, 0, 1, 2, GREAT)) for _ in range(width))


class Values(unittest.TestCase):
    def test_plain_terms(self):
        self.assertEqual(col(0), (0, ((0, 1),)))
        self.assertEqual(col(column=99), (0, ((99, 1),)))
        self.assertEqual(num(0), (0, ()))
        self.assertEqual(num(number=-GREAT), (-GREAT, ()))

    def test_value(self):
        self.assertEqual(value_of((5, ((0, 2), (2, -3))), (10, 99, 7)), 5 + 20 - 21)
        self.assertEqual(value_of(row=(4,), term=(0, ((0, 1),))), 4)
        self.assertEqual(value_of((-8, ()), ()), -8)
        self.assertEqual(value_of((-8, ()), (1, 2)), -8)
        self.assertEqual(value_of((GREAT, ((0, GREAT),)), (GREAT,)), GREAT + GREAT * GREAT)

    def test_values(self):
        self.assertEqual(values_of((col(1), num(7), (1, ((0, -1),)), col(1)), (3, 4)), (4, 7, -2, 4))
        self.assertEqual(values_of((), (3, 4)), ())
        self.assertEqual(values_of(row=(3,), terms=(col(0),)), (3,))
        self.assertIsInstance(values_of((col(0),), (3,)), tuple)

    def test_is_plain(self):
        for term in (col(0), col(3), col(99), num(0), num(-4), num(GREAT)):
            self.assertIs(is_plain(term), True)
        for term in ((1, ((0, 1),)), (0, ((0, -1),)), (0, ((0, 2),)), (0, ((0, 1), (1, 1))), (3, ((0, 2),)),
                     (-1, ((5, 1),)), (0, ((0, 1), (1, -1)))):
            self.assertIs(is_plain(term=term), False)


class Tests(unittest.TestCase):
    def test_each_op(self):
        for left, right in ((1, 2), (2, 2), (3, 2), (-GREAT, GREAT), (GREAT, GREAT), (0, -1)):
            compared = {"=": left == right, "!=": left != right, "<": left < right, "<=": left <= right}
            for op, expected in compared.items():
                self.assertIs(holds(((col(0), op, col(1)),), (left, right)), expected)
                self.assertIs(holds(((num(left), op, num(right)),), ()), expected)
                self.assertIs(holds(((col(0), op, num(right)),), (left,)), expected)

    def test_all_must_hold(self):
        one, two = (col(0), "<", num(5)), (col(1), "=", (1, ((0, 2),)))
        self.assertIs(holds((one, two), (3, 7)), True)
        self.assertIs(holds((one, two), (3, 8)), False)
        self.assertIs(holds((one, two), (6, 13)), False)
        self.assertIs(holds((one, two), (6, 8)), False)
        self.assertIs(holds(row=(6,), tests=(one,)), False)

    def test_no_tests(self):
        self.assertIs(holds((), ()), True)
        self.assertIs(holds((), (1, 2)), True)


class Composed(unittest.TestCase):
    def test_example_of_the_interface(self):
        told = composed((1, ((0, 2), (1, -1))), ((3, ((0, 1),)), (0, ((0, 2), (4, 1)))))
        self.assertEqual(told, (7, ((4, -1),)))

    def test_values_stay(self):
        chance = random.Random(1)
        for _ in range(400):
            middle, width = chance.randint(0, 5), chance.randint(0, 5)
            term = some_term(chance, middle)
            terms = tuple(some_term(chance, width) for _ in range(middle))
            told = composed(term, terms)
            for row in [some_row(chance, width) for _ in range(4)]:
                self.assertEqual(value_of(told, row), value_of(term, values_of(terms, row)))
            columns = [column for column, _ in told[1]]
            self.assertEqual(columns, sorted(set(columns)))
            self.assertTrue(all(factor != 0 for _, factor in told[1]))
            self.assertEqual(list(map(type, (told, told[1], *told[1]))), [tuple] * (2 + len(told[1])))

    def test_numbers_and_columns(self):
        terms = ((3, ((7, 2),)), num(4), col(9))
        self.assertEqual(composed(num(6), ()), num(6))
        self.assertEqual(composed(num(6), terms), num(6))
        for column, term in enumerate(terms):
            self.assertEqual(composed(col(column), terms), term)
        self.assertEqual(composed(terms=terms, term=(1, ((0, 1), (1, 5), (2, 1)))), (24, ((7, 2), (9, 1))))

    def test_order_of_columns(self):
        for first, second in itertools.permutations((0, 5, 11, 99), 2):
            told = composed((0, ((0, 1), (1, 1))), (col(first), col(second)))
            self.assertEqual(told, (0, ((min(first, second), 1), (max(first, second), 1))))


if __name__ == "__main__":
    unittest.main()
