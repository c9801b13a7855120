"""Moments: points 3, 4 and 5."""

import itertools
import random
import unittest

from deltamill.moments import before, closure, corners, is_moment, join_of, meet_of
from samples import GREAT, NO_ROWS, Odd

SIDES = {1: 6, 2: 4, 3: 3, 4: 2}


def grid(axes):
    """All moments with small coordinates."""
    return list(itertools.product(range(SIDES[axes]), repeat=axes))


class IsMoment(unittest.TestCase):
    def test_moments(self):
        for axes in range(1, 5):
            for moment in grid(axes) + [(GREAT,) * axes, (0,) * axes]:
                for asked in range(1, 5):
                    self.assertIs(is_moment(moment, asked), asked == axes)

    def test_by_name(self):
        self.assertIs(is_moment(value=(1, 2), axes=2), True)

    def test_negative_coordinates(self):
        for axes in range(1, 5):
            for place in range(axes):
                for low in (-1, -2, -GREAT):
                    value = tuple(low if k == place else k for k in range(axes))
                    self.assertIs(is_moment(value, axes), False)

    def test_other_values(self):
        for axes in range(1, 5):
            for value in NO_ROWS + ((), (0,) * 5, (0,) * 12):
                self.assertIs(is_moment(value, axes), False, value)

    def test_one_wrong_coordinate(self):
        for axes in range(1, 5):
            for place in range(axes):
                for wrong in (True, False, None, 1.0, "1", (0,), [0], Odd()):
                    value = tuple(wrong if k == place else k for k in range(axes))
                    self.assertIs(is_moment(value, axes), False, value)


class Order(unittest.TestCase):
    def test_before(self):
        for axes in range(1, 5):
            for first, second in itertools.product(grid(axes), repeat=2):
                holds = True
                for k in range(axes):
                    if first[k] > second[k]:
                        holds = False
                self.assertIs(before(first, second), holds)

    def test_before_itself(self):
        for axes in range(1, 5):
            for moment in grid(axes):
                self.assertIs(before(moment, moment), True)

    def test_neither_before_the_other(self):
        self.assertIs(before((0, 1), (1, 0)), False)
        self.assertIs(before((1, 0), (0, 1)), False)

    def test_join_is_the_least_above_both(self):
        for axes in range(1, 5):
            moments = grid(axes)
            for first, second in itertools.product(moments, repeat=2):
                join = join_of(first, second)
                for other in moments:
                    both = before(first, other) and before(second, other)
                    self.assertIs(before(join, other), both)

    def test_meet_is_the_greatest_below_both(self):
        for axes in range(1, 5):
            moments = grid(axes)
            for first, second in itertools.product(moments, repeat=2):
                meet = meet_of(first, second)
                for other in moments:
                    both = before(other, first) and before(other, second)
                    self.assertIs(before(other, meet), both)

    def test_tuples(self):
        for axes in range(1, 5):
            for first, second in itertools.product(grid(axes)[:6], repeat=2):
                self.assertTrue(is_moment(join_of(first, second), axes))
                self.assertTrue(is_moment(meet_of(first, second), axes))

    def test_great_coordinates(self):
        first, second = (GREAT, 0, 3), (GREAT - 1, GREAT, 3)
        self.assertEqual(join_of(first, second), (GREAT, GREAT, 3))
        self.assertEqual(meet_of(first, second), (GREAT - 1, 0, 3))
        self.assertIs(before((GREAT - 1,), (GREAT,)), True)
        self.assertIs(before((GREAT,), (GREAT - 1,)), False)

    def test_by_name(self):
        self.assertIs(before(second=(1, 1), first=(0, 1)), True)
        self.assertEqual(join_of(first=(0, 1), second=(1, 0)), (1, 1))
        self.assertEqual(meet_of(first=(0, 1), second=(1, 0)), (0, 0))


def closed_by_hand(moments):
    """The closure, by adding joins until nothing is new."""
    found = set(moments)
    while True:
        more = {tuple(map(max, a, b)) for a in found for b in found} | found
        if more == found:
            return sorted(found)
        found = more


class Closure(unittest.TestCase):
    def test_examples(self):
        self.assertEqual(closure([(0, 1), (1, 0)]), [(0, 1), (1, 0), (1, 1)])
        self.assertEqual(closure([(2, 0, 0), (0, 2, 0), (0, 0, 2)]),
                         [(0, 0, 2), (0, 2, 0), (0, 2, 2), (2, 0, 0), (2, 0, 2), (2, 2, 0), (2, 2, 2)])

    def test_no_moments(self):
        self.assertEqual(closure([]), [])

    def test_one_moment(self):
        self.assertEqual(closure([(GREAT, 0)]), [(GREAT, 0)])

    def test_equal_moments(self):
        self.assertEqual(closure([(1, 0), (0, 1), (1, 0), (0, 1)]), [(0, 1), (1, 0), (1, 1)])

    def test_against_the_definition(self):
        chance = random.Random(4)
        for _ in range(300):
            axes = chance.randint(1, 4)
            moments = [tuple(chance.randrange(5) for _ in range(axes)) for _ in range(chance.randint(0, 6))]
            self.assertEqual(closure(moments), closed_by_hand(moments))

    def test_any_order(self):
        moments = [(3, 0, 1), (0, 2, 2), (1, 1, 1), (GREAT, 0, 0)]
        for order in itertools.permutations(moments):
            self.assertEqual(closure(list(order)), closed_by_hand(moments))

    def test_twelve_moments(self):
        moments = [tuple(9 if k == place else step for k in range(4)) for step in range(3) for place in range(4)]
        self.assertEqual(closure(moments), closed_by_hand(moments))

    def test_argument_and_result_stay_apart(self):
        moments = [(1, 0), (0, 1)]
        found = closure(moments)
        self.assertEqual(moments, [(1, 0), (0, 1)])
        found.append((9, 9))
        self.assertEqual(closure(moments), [(0, 1), (1, 0), (1, 1)])
        self.assertIsInstance(closure(moments=moments), list)


class Corners(unittest.TestCase):
    def test_example_of_the_interface(self):
        self.assertEqual(corners((1, 0)), [((0, 0), -1), ((1, 0), 1)])

    def test_two_and_three_lowered(self):
        self.assertEqual(corners((2, 5)), [((1, 4), 1), ((1, 5), -1), ((2, 4), -1), ((2, 5), 1)])
        self.assertEqual(dict(corners((1, 1, 1)))[(0, 0, 0)], -1)

    def test_zero_and_great(self):
        for axes in range(1, 5):
            self.assertEqual(corners((0,) * axes), [((0,) * axes, 1)])
        self.assertEqual(corners((GREAT,)), [((GREAT - 1,), -1), ((GREAT,), 1)])

    def test_against_the_definition(self):
        for axes in range(1, 5):
            for moment in grid(axes) + [(7,) * axes]:
                found = []
                for lowered in itertools.product((0, 1), repeat=axes):
                    corner = tuple(a - b for a, b in zip(moment, lowered))
                    if min(corner) >= 0:
                        found.append((corner, 1 if sum(lowered) % 2 == 0 else -1))
                self.assertEqual(corners(moment), sorted(found))

    def test_the_sum_over_all_moments_before(self):
        chance = random.Random(5)
        for axes in range(1, 5):
            worth = {moment: chance.randint(-9, 9) for moment in grid(axes)}
            for moment in worth:
                steps = [sign * worth[corner] for at in worth if before(at, moment) for corner, sign in corners(at)]
                self.assertEqual(sum(steps), worth[moment])

    def test_kinds(self):
        found = corners(moment=(1, 1))
        self.assertIsInstance(found, list)
        for pair in found:
            self.assertIsInstance(pair, tuple)
            self.assertIsInstance(pair[0], tuple)
        found.clear()
        self.assertEqual(len(corners((1, 1))), 4)


if __name__ == "__main__":
    unittest.main()
