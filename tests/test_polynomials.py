"""Polynomials: points 30 and 31."""

import itertools
import random
import unittest

from deltamill.bags import Bag
from deltamill.histories import History
from deltamill.polynomials import Polynomial
from samples import GREAT, NO_NUMBERS, Odd

TOKENS = (("a", ()), ("a", (1,)), ("a", (2, -5)), ("b", (1,)), ("b'", (GREAT,)))


def some_monomial(chance):
    tokens = sorted(chance.sample(TOKENS, chance.randint(0, 3)))
    return tuple((name, row, chance.choice((1, 1, 2, 3))) for name, row in tokens)


def some_terms(chance, many=5):
    return [(some_monomial(chance), chance.choice((-3, -1, 0, 1, 1, 2, GREAT))) for _ in range(chance.randint(0, many))]


def summed(terms):
    """What terms() must tell."""
    found = {}
    for monomial, coefficient in terms:
        found[monomial] = found.get(monomial, 0) + coefficient
    return sorted((monomial, coefficient) for monomial, coefficient in found.items() if coefficient != 0)


def times_by_hand(first, second):
    terms = []
    for (left, one), (right, two) in itertools.product(first, second):
        powers = {}
        for name, row, power in left + right:
            powers[name, row] = powers.get((name, row), 0) + power
        terms.append((tuple((name, row, powers[name, row]) for name, row in sorted(powers)), one * two))
    return summed(terms)


def value_by_hand(terms, tables):
    total = 0
    for monomial, coefficient in terms:
        for name, row, power in monomial:
            coefficient *= tables.get(name, {}).get(row, 0) ** power
        total += coefficient
    return total


def some_tables(chance):
    """Dicts of counts; some tokens and some tables are missing."""
    tables = {}
    for name, row in TOKENS:
        if chance.random() < 0.8:
            tables.setdefault(name, {})[row] = chance.choice((-2, -1, 1, 2, 3, GREAT))
    return tables


def bags_of(tables):
    return {name: Bag(list(counts.items())) for name, counts in tables.items()}


def cases(seed, many=300):
    chance = random.Random(seed)
    return [(chance, some_terms(chance), some_terms(chance)) for _ in range(many)]


class Making(unittest.TestCase):
    def test_terms(self):
        for chance, terms, _ in cases(1):
            expected = summed(terms)
            chance.shuffle(terms)
            for given in (terms, tuple(terms), terms[::-1]):
                polynomial = Polynomial(given)
                self.assertEqual(polynomial.terms(), expected)
                self.assertEqual(len(polynomial), len(expected))
            self.assertTrue(all(isinstance(pair, tuple) for pair in polynomial.terms()))

    def test_equal_monomials(self):
        one, two = (("a", (1,), 2),), (("a", (1,), 1),)
        self.assertEqual(Polynomial([(one, 2), (two, 5), (one, 3)]).terms(), [(two, 5), (one, 5)])
        self.assertEqual(Polynomial([(one, 2), (two, 5), (one, -2)]).terms(), [(two, 5)])
        self.assertEqual(Polynomial([((), 2), ((), -2)]).terms(), [])
        self.assertEqual(Polynomial([(one, 0)]).terms(), [])

    def test_by_name(self):
        self.assertEqual(Polynomial(terms=[((), 3)]), Polynomial.of_number(number=3))
        self.assertEqual(Polynomial.of_token(name="a", row=(1,)).terms(), [((("a", (1,), 1),), 1)])

    def test_zero_and_constants(self):
        for zero in (Polynomial(), Polynomial([]), Polynomial(()), Polynomial.of_number(0)):
            self.assertEqual((zero.terms(), zero.tokens(), len(zero), zero.degree, zero.value({})), ([], [], 0, -1, 0))
        for number in (1, -1, GREAT):
            constant = Polynomial.of_number(number)
            self.assertEqual(constant.terms(), [((), number)])
            self.assertEqual((constant.tokens(), len(constant), constant.degree), ([], 1, 0))
            self.assertEqual(constant.value({"a": Bag.of(())}), number)

    def test_tokens(self):
        for _, terms, _ in cases(2):
            found = {(name, row) for monomial, _ in summed(terms) for name, row, _ in monomial}
            self.assertEqual(Polynomial(terms).tokens(), sorted(found))
        polynomial = Polynomial([((("a", (1,), 2),), 2), ((("b", (1,), 2),), 1), ((("a", (1,), 2),), -2)])
        self.assertEqual(polynomial.tokens(), [("b", (1,))])

    def test_degree(self):
        for _, terms, _ in cases(3):
            sums = [sum(power for _, _, power in monomial) for monomial, _ in summed(terms)]
            self.assertEqual(Polynomial(terms).degree, max(sums, default=-1))
        self.assertEqual(Polynomial([((("a", (1,), 20), ("b", (), 3)), 2), ((), 5)]).degree, 23)

    def test_what_is_passed_and_returned(self):
        terms = [((("a", (1,), 1),), 2)]
        polynomial = Polynomial(terms)
        terms.append(((), 1))
        polynomial.terms().clear()
        polynomial.tokens().append(7)
        self.assertEqual(polynomial.terms(), [((("a", (1,), 1),), 2)])
        self.assertEqual(polynomial.tokens(), [("a", (1,))])


class Operators(unittest.TestCase):
    def test_sums(self):
        for _, left, right in cases(4):
            one, two = Polynomial(left), Polynomial(right)
            negated = [(monomial, -coefficient) for monomial, coefficient in right]
            self.assertEqual((one + two).terms(), summed(left + right))
            self.assertEqual((one - two).terms(), summed(left + negated))
            self.assertEqual((-two).terms(), summed(negated))
            self.assertEqual((one.terms(), two.terms()), (summed(left), summed(right)))
        self.assertEqual(one - one, Polynomial())

    def test_products(self):
        for _, left, right in cases(5):
            one, two = Polynomial(left), Polynomial(right)
            self.assertEqual((one * two).terms(), times_by_hand(summed(left), summed(right)))
            self.assertEqual((one.terms(), two.terms()), (summed(left), summed(right)))

    def test_terms_that_fall_away(self):
        token = Polynomial.of_token("a", (1,))
        one = Polynomial.of_number(1)
        self.assertEqual(((token + one) * (token - one)).terms(), [((), -1), ((("a", (1,), 2),), 1)])
        self.assertEqual(token * Polynomial(), Polynomial())

    def test_integers(self):
        for _, terms, _ in cases(6, 60):
            polynomial = Polynomial(terms)
            for number in (0, 1, -1, 3, GREAT):
                expected = summed([(monomial, coefficient * number) for monomial, coefficient in terms])
                self.assertEqual((polynomial * number).terms(), expected)
                self.assertEqual((number * polynomial).terms(), expected)

    def test_powers(self):
        for _, terms, _ in cases(7, 60):
            polynomial = Polynomial(terms[:3])
            expected = [((), 1)]
            self.assertEqual((polynomial ** 0).terms(), expected)
            for power in range(1, 7):
                expected = times_by_hand(expected, summed(terms[:3]))
                self.assertEqual((polynomial ** power).terms(), expected)
            self.assertEqual(polynomial.terms(), summed(terms[:3]))
        self.assertEqual(Polynomial() ** 0, Polynomial.of_number(1))
        self.assertEqual(Polynomial() ** 3, Polynomial())
        self.assertEqual((Polynomial.of_token("a", ()) ** 6).terms(), [((("a", (), 6),), 1)])

    def test_other_kinds(self):
        token = Polynomial.of_token("a", (1,))
        for other in (True, False, None, "a", 1.0, (), [], Bag(), History(1)):
            for call in (lambda: token + other, lambda: token - other, lambda: token * other, lambda: token ** other,
                         lambda: other * token):
                with self.assertRaises(TypeError):
                    call()
        for power in (-1, -GREAT):
            with self.assertRaises(TypeError):
                token ** power
        for other in (1, 0, GREAT):
            with self.assertRaises(TypeError):
                token + other
            with self.assertRaises(TypeError):
                other - token

    def test_equal(self):
        for chance, left, right in cases(8):
            self.assertIs(Polynomial(left) == Polynomial(right), summed(left) == summed(right))
            self.assertIs(Polynomial(left) != Polynomial(right), summed(left) != summed(right))
            again = left + [(monomial, 0) for monomial, _ in right]
            chance.shuffle(again)
            self.assertIs(Polynomial(left) == Polynomial(again), True)
        for polynomial in (Polynomial(), Polynomial.of_number(1), Polynomial.of_token("a", (1,))):
            for other in NO_NUMBERS + (0, 1, polynomial.terms(), Bag(), Bag.of(())):
                if not isinstance(other, Odd):
                    self.assertIs(polynomial == other, False)
                    self.assertIs(polynomial != other, True)


class Values(unittest.TestCase):
    def test_value(self):
        for chance, terms, _ in cases(9):
            tables = some_tables(chance)
            self.assertEqual(Polynomial(terms).value(tables=bags_of(tables)), value_by_hand(terms, tables))

    def test_tables_without_the_token(self):
        polynomial = Polynomial([((("a", (1,), 2),), 5), ((("b", (1,), 1),), 7), ((), 3)])
        self.assertEqual(polynomial.value({}), 3)
        self.assertEqual(polynomial.value({"a": Bag.of((2,)), "c": Bag.of((1,))}), 3)
        self.assertEqual(polynomial.value({"a": Bag([((1,), -2)])}), 23)
        self.assertEqual(polynomial.value({"b": Bag([((1,), -2)]), "a": Bag()}), -11)

    def test_changed(self):
        for chance, terms, _ in cases(10, 400):
            polynomial, tables = Polynomial(terms), some_tables(chance)
            name, row = chance.choice(TOKENS)
            for by in (0, 1, -1, 3, -GREAT):
                told = polynomial.changed(name, row, by)
                more = {table: dict(counts) for table, counts in tables.items()}
                more.setdefault(name, {})[row] = more.get(name, {}).get(row, 0) + by
                self.assertEqual(told.value(bags_of(tables)), polynomial.value(bags_of(more)))
                self.assertEqual(told.changed(name=name, row=row, by=-by), polynomial)
            self.assertEqual(polynomial.terms(), summed(terms))

    def test_changed_terms(self):
        square = Polynomial([((("a", (1,), 2), ("b", (1,), 1)), 3), ((("a", (2,), 1),), 4)])
        self.assertEqual(square.changed("a", (1,), 2).terms(), [
            ((("a", (1,), 1), ("b", (1,), 1)), 12), ((("a", (1,), 2), ("b", (1,), 1)), 3), ((("a", (2,), 1),), 4),
            ((("b", (1,), 1),), 12)])
        self.assertEqual(square.changed("a", (1,), 0), square)
        self.assertEqual(square.changed("c", (1,), 5), square)
        self.assertEqual(square.changed("b", (), 5), square)
        self.assertEqual(Polynomial().changed("a", (1,), 5), Polynomial())
        great = Polynomial([((("a", (), 20),), 1)]).changed("a", (), -1)
        self.assertEqual((len(great), great.terms()[0], great.value({"a": Bag([((), 3)])})), (21, ((), 1), 2 ** 20))

    def test_fixed(self):
        for chance, terms, _ in cases(11, 400):
            polynomial, tables = Polynomial(terms), some_tables(chance)
            name, row = chance.choice(TOKENS)
            for count in (0, 1, -2, GREAT):
                told = polynomial.fixed(name=name, row=row, count=count)
                more = {table: dict(counts) for table, counts in tables.items()}
                more.setdefault(name, {})[row] = count
                self.assertEqual(told.value(bags_of(tables)), polynomial.value(bags_of(more)))
                self.assertNotIn((name, row), told.tokens())
            self.assertEqual(polynomial.terms(), summed(terms))

    def test_fixed_terms(self):
        polynomial = Polynomial([((("a", (1,), 2), ("b", (1,), 1)), 3), ((("b", (1,), 1),), -12), ((), 1)])
        self.assertEqual(polynomial.fixed("a", (1,), 2).terms(), [((), 1)])
        self.assertEqual(polynomial.fixed("a", (1,), 0).terms(), [((), 1), ((("b", (1,), 1),), -12)])
        self.assertEqual(polynomial.fixed("b", (1,), -1).terms(), [((), 13), ((("a", (1,), 2),), -3)])
        self.assertEqual(polynomial.fixed("c", (1,), 9), polynomial)


if __name__ == "__main__":
    unittest.main()
