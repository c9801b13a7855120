"""Rows and bags: points 9 and 10."""

import itertools
import random
import unittest

from deltamill.bags import Bag, is_row
from deltamill.errors import BadCount, BadRow
from deltamill.histories import History
from deltamill.polynomials import Polynomial
from samples import GREAT, NO_NUMBERS, NO_ROWS, Odd, refused

ROWS = ((), (0,), (1,), (-1,), (1, 2), (2, 1), (GREAT,), (-GREAT, 0, 5), (0,) * 12)


def some_dicts(seed, many):
    """Dicts from rows to counts, zeros among them."""
    chance = random.Random(seed)
    found = [{}, {(): 1}, {(1,): 0}]
    for _ in range(many):
        rows = chance.sample(ROWS, chance.randint(1, 6))
        found.append({row: chance.choice((-GREAT, -2, -1, 0, 1, 2, 3, GREAT)) for row in rows})
    return found


def bag_of(counts):
    return Bag(list(counts.items()))


def pairs_of(counts):
    """What pairs() must tell."""
    return sorted((row, count) for row, count in counts.items() if count != 0)


class IsRow(unittest.TestCase):
    def test_rows(self):
        for row in ROWS:
            self.assertIs(is_row(row), True)
        self.assertIs(is_row(value=()), True)

    def test_other_values(self):
        for value in NO_ROWS:
            self.assertIs(is_row(value), False, value)
        for wrong in NO_NUMBERS:
            self.assertIs(is_row((wrong,)), False)
            self.assertIs(is_row((1, wrong, 2)), False)


class Making(unittest.TestCase):
    def test_no_pairs(self):
        for bag in (Bag(), Bag([]), Bag(()), Bag(pairs=[]), Bag.of()):
            self.assertEqual((bag.pairs(), len(bag), bag.total, bag.is_plain), ([], 0, 0, True))

    def test_pairs_in_any_order(self):
        pairs = [((2,), 1), ((1,), 2), ((), -3), ((2,), 4), ((1, 5), 0)]
        for order in itertools.permutations(pairs):
            self.assertEqual(Bag(list(order)).pairs(), [((), -3), ((1,), 2), ((2,), 5)])
            self.assertEqual(Bag(order).pairs(), [((), -3), ((1,), 2), ((2,), 5)])

    def test_counts_that_add_up_to_nothing(self):
        bag = Bag([((7,), 2), ((8,), 1), ((7,), -5), ((7,), 3), ((9,), 0)])
        self.assertEqual(bag.pairs(), [((8,), 1)])
        self.assertIs((7,) in bag, False)
        self.assertIs((9,) in bag, False)

    def test_great_numbers(self):
        bag = Bag([((GREAT,), GREAT), ((GREAT,), GREAT), ((-GREAT, 0), -GREAT)])
        self.assertEqual(bag.pairs(), [((-GREAT, 0), -GREAT), ((GREAT,), 2 * GREAT)])

    def test_of(self):
        self.assertEqual(Bag.of((1,), (), (1,), (1, 2), (1,)).pairs(), [((), 1), ((1,), 3), ((1, 2), 1)])
        self.assertIsInstance(vars(Bag)["of"], staticmethod)

    def test_bad_rows(self):
        for wrong in NO_ROWS:
            refused(self, BadRow, {"value": wrong}, Bag, [(wrong, 1)])
            refused(self, BadRow, {"value": wrong}, Bag, [((1,), 1), (wrong, None), ((2,), None), (3, 1)])
            refused(self, BadRow, {"value": wrong}, Bag.of, wrong)
            refused(self, BadRow, {"value": wrong}, Bag.of, (1,), wrong, 5)

    def test_bad_counts(self):
        for wrong in NO_NUMBERS:
            refused(self, BadCount, {"value": wrong}, Bag, [((1,), wrong)])
            refused(self, BadCount, {"value": wrong}, Bag, [((1,), 1), ((), wrong), (None, 1), ((), "x")])

    def test_the_first_fault(self):
        refused(self, BadCount, {"value": None}, Bag, [((1,), None), (5, 1)])
        refused(self, BadRow, {"value": 5}, Bag, [(5, 1), ((1,), None)])
        refused(self, BadRow, {"value": 5}, Bag, [(5, None)])

    def test_what_is_passed_and_returned_stays_apart(self):
        pairs = [((1,), 2), ((0,), 1)]
        bag = Bag(pairs)
        self.assertEqual(pairs, [((1,), 2), ((0,), 1)])
        pairs.append(((5,), 5))
        pairs[0] = ((9,), 9)
        told = bag.pairs()
        self.assertIsInstance(told, list)
        self.assertIsInstance(told[0], tuple)
        told.append(((6,), 6))
        self.assertEqual(bag.pairs(), [((0,), 1), ((1,), 2)])


class Asking(unittest.TestCase):
    def test_counts_and_rows(self):
        for counts in some_dicts(1, 60):
            bag = bag_of(counts)
            self.assertEqual(bag.pairs(), pairs_of(counts))
            self.assertEqual(len(bag), len(pairs_of(counts)))
            self.assertEqual(bag.total, sum(counts.values()))
            self.assertIs(bag.is_plain, all(count >= 0 for count in counts.values()))
            for row in ROWS + ((77,),):
                self.assertEqual(bag[row], counts.get(row, 0))
                self.assertIs(row in bag, counts.get(row, 0) != 0)

    def test_what_is_no_row(self):
        bag = Bag([((1,), 2), ((0,), 1), ((), 1)])
        for value in NO_ROWS:
            self.assertEqual(bag[value], 0)
            self.assertIs(value in bag, False)

    def test_support(self):
        for counts in some_dicts(2, 60):
            bag = bag_of(counts)
            told = bag.support()
            self.assertIsInstance(told, Bag)
            self.assertEqual(told.pairs(), sorted((row, 1) for row, count in counts.items() if count > 0))
            self.assertEqual(bag.pairs(), pairs_of(counts))

    def test_properties(self):
        self.assertIsInstance(vars(Bag)["total"], property)
        self.assertIsInstance(vars(Bag)["is_plain"], property)

    def test_equal_bags(self):
        for one, two in itertools.product(some_dicts(3, 12), repeat=2):
            same = pairs_of(one) == pairs_of(two)
            self.assertIs(bag_of(one) == bag_of(two), same)
            self.assertIs(bag_of(one) != bag_of(two), not same)
        self.assertTrue(Bag.of((2,), (1,), (2,)) == Bag([((1,), 1), ((2,), 2)]))

    def test_not_equal_to_other_kinds(self):
        for bag in (Bag(), Bag.of((1,))):
            for value in (None, 0, False, 1, "", (), [], {}, {(1,): 1}, bag.pairs(), Odd(), Bag):
                self.assertIs(bag == value, False)
                self.assertIs(bag != value, True)


class Operators(unittest.TestCase):
    def check(self, told, expected):
        self.assertIsInstance(told, Bag)
        self.assertEqual(told.pairs(), pairs_of({row: expected(row) for row in ROWS}))

    def test_two_bags(self):
        for one, two in itertools.product(some_dicts(4, 25), repeat=2):
            a, b = bag_of(one), bag_of(two)
            self.check(a + b, lambda row: one.get(row, 0) + two.get(row, 0))
            self.check(a - b, lambda row: one.get(row, 0) - two.get(row, 0))
            self.check(a & b, lambda row: min(one.get(row, 0), two.get(row, 0)))
            self.check(a | b, lambda row: max(one.get(row, 0), two.get(row, 0)))
            self.assertEqual([a.pairs(), b.pairs()], [pairs_of(one), pairs_of(two)])

    def test_one_bag(self):
        for counts in some_dicts(5, 40):
            bag = bag_of(counts)
            self.check(-bag, lambda row: -counts.get(row, 0))
            self.check(abs(bag), lambda row: abs(counts.get(row, 0)))
            self.check(bag + bag, lambda row: 2 * counts.get(row, 0))
            self.check(bag - bag, lambda row: 0)
            for number in (-GREAT, -2, -1, 0, 1, 3, GREAT):
                self.check(bag * number, lambda row: counts.get(row, 0) * number)
                self.check(number * bag, lambda row: counts.get(row, 0) * number)
            self.assertEqual(bag.pairs(), pairs_of(counts))

    def test_missing_rows_count_nothing(self):
        a, b = Bag([((1,), -2), ((2,), 3)]), Bag()
        self.assertEqual((a & b).pairs(), [((1,), -2)])
        self.assertEqual((b & a).pairs(), [((1,), -2)])
        self.assertEqual((a | b).pairs(), [((2,), 3)])
        self.assertEqual((b | a).pairs(), [((2,), 3)])

    def test_other_operands(self):
        bag = Bag.of((1,))
        for value in (True, False, None, 1.0, "a", [1], Bag(), History(1), Polynomial()):
            with self.assertRaises(TypeError):
                bag * value
            with self.assertRaises(TypeError):
                value * bag
        for value in (1, None, [((1,), 1)], {(1,): 1}):
            for call in (lambda: bag + value, lambda: bag - value, lambda: bag & value, lambda: bag | value):
                with self.assertRaises(TypeError):
                    call()

    def test_a_bag_is_not_iterated_over(self):
        with self.assertRaises(TypeError):
            list(Bag.of((1,)))


if __name__ == "__main__":
    unittest.main()
