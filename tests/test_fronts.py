"""Fronts, folding and parting: points 6, 7 and 8."""

import itertools
import random
import unittest

from deltamill.errors import BadAxes, BadMoment, UnlikeAxes
from deltamill.fronts import Front
from deltamill.moments import before, join_of, meet_of
from samples import GREAT, NO_NUMBERS, NO_ROWS, Odd, refused

# Moments up to this coordinate are looked at; the fronts use coordinates below it.
SIDES = {1: 8, 2: 6, 3: 4, 4: 3}


def grid(axes):
    return list(itertools.product(range(SIDES[axes]), repeat=axes))


def some_fronts(seed, many):
    """Lists of moments for fronts with 1 to 4 axes, without and with moments, as pairs with the axes."""
    chance = random.Random(seed)
    found = []
    for axes in range(1, 5):
        found.extend([(axes, []), (axes, [(0,) * axes])])
        for _ in range(many):
            moments = [tuple(chance.randrange(SIDES[axes]) for _ in range(axes)) for _ in range(chance.randint(1, 5))]
            found.append((axes, moments))
    return found


def is_open(moment, moments):
    return any(before(low, moment) for low in moments)


class Making(unittest.TestCase):
    def test_minimal_moments(self):
        for axes, moments in some_fronts(1, 40):
            front = Front(axes, moments)
            kept = {m for m in moments if not any(before(low, m) and low != m for low in moments)}
            self.assertEqual(front.moments(), sorted(kept))
            self.assertEqual(len(front), len(kept))
            self.assertEqual(front.axes, axes)

    def test_any_order_and_equal_moments(self):
        moments = [(2, 0), (0, 1), (2, 3), (0, 1), (GREAT, 0)]
        for order in itertools.permutations(moments):
            self.assertEqual(Front(2, list(order)).moments(), [(0, 1), (2, 0)])

    def test_by_name(self):
        front = Front(moments=[(1,)], axes=1)
        self.assertEqual((front.axes, front.moments()), (1, [(1,)]))

    def test_great_coordinates(self):
        front = Front(2, [(GREAT, 0), (GREAT - 1, 1), (GREAT, 1)])
        self.assertEqual(front.moments(), [(GREAT - 1, 1), (GREAT, 0)])

    def test_six_minimal_moments(self):
        moments = [(k, 5 - k, 0, 0) for k in range(6)]
        self.assertEqual(Front(4, moments + [(5, 5, 0, 0)]).moments(), moments)

    def test_everything_and_nothing(self):
        for axes in range(1, 5):
            whole, none = Front.everything(axes), Front.nothing(axes)
            self.assertEqual((whole.axes, whole.moments()), (axes, [(0,) * axes]))
            self.assertEqual((none.axes, none.moments()), (axes, []))
            self.assertEqual(Front.everything(axes=axes), Front(axes, [(0,) * axes, (1,) * axes]))
            self.assertEqual(Front.nothing(axes=axes), Front(axes, []))
            for moment in grid(axes):
                self.assertIs(moment in whole, True)
                self.assertIs(moment in none, False)
        self.assertIsInstance(Front.everything(1), Front)
        self.assertIsInstance(Front.nothing(1), Front)

    def test_class_methods(self):
        for name in ("everything", "nothing"):
            self.assertIsInstance(vars(Front)[name], classmethod)

    def test_bad_axes(self):
        for axes in NO_NUMBERS + (0, -1, 5, 12, GREAT, -GREAT):
            refused(self, BadAxes, {"value": axes}, Front, axes, [])
            refused(self, BadAxes, {"value": axes}, Front, axes, [(0,), None])
            refused(self, BadAxes, {"value": axes}, Front.everything, axes)
            refused(self, BadAxes, {"value": axes}, Front.nothing, axes)

    def test_bad_moments(self):
        for axes in range(1, 5):
            whole = (0,) * axes
            for wrong in NO_ROWS + ((), whole + (0,), whole[:-1] + (-1,), (0,) * 5):
                refused(self, BadMoment, {"moment": wrong}, Front, axes, [wrong])
                refused(self, BadMoment, {"moment": wrong}, Front, axes, [whole, whole, wrong, (7,) * 7])

    def test_the_first_wrong_moment(self):
        refused(self, BadMoment, {"moment": (5, -1)}, Front, 2, [(0, 0), (5, -1), (0,), (1, True)])
        refused(self, BadMoment, {"moment": (1, True)}, Front, 2, [(1, True), (5, -1)])
        refused(self, BadMoment, {"moment": (9,)}, Front, 2, [(9,), (5, -1)])

    def test_the_list_stays_apart(self):
        moments = [(2, 0), (0, 1), (2, 3)]
        front = Front(2, moments)
        self.assertEqual(moments, [(2, 0), (0, 1), (2, 3)])
        moments.append((0, 0))
        moments[0] = (7, 7)
        self.assertEqual(front.moments(), [(0, 1), (2, 0)])
        told = front.moments()
        self.assertIsInstance(told, list)
        told.append((0, 0))
        del told[0]
        self.assertEqual(front.moments(), [(0, 1), (2, 0)])
        self.assertEqual(len(front), 2)


class Asking(unittest.TestCase):
    def test_open_moments(self):
        for axes, moments in some_fronts(2, 25):
            front = Front(axes, moments)
            for moment in grid(axes) + [(GREAT,) * axes]:
                self.assertIs(moment in front, is_open(moment, moments))

    def test_other_values_are_not_open(self):
        for axes in range(1, 5):
            for front in (Front.everything(axes), Front.nothing(axes)):
                for value in NO_ROWS + ((), (0,) * (axes + 1), (0,) * (axes - 1), (-1,) * axes, (True,) * axes):
                    self.assertIs(value in front, False, value)

    def test_equal_fronts(self):
        self.assertTrue(Front(2, [(0, 1), (1, 0), (1, 1)]) == Front(2, [(1, 0), (0, 1)]))
        self.assertFalse(Front(2, [(0, 1), (1, 0)]) != Front(2, [(1, 0), (0, 1)]))
        self.assertFalse(Front(2, [(0, 1)]) == Front(2, [(1, 0)]))
        self.assertTrue(Front(2, [(0, 1)]) != Front(2, [(1, 0)]))
        self.assertFalse(Front(2, [(0, 1)]) == Front(2, [(0, 1), (1, 0)]))
        self.assertFalse(Front(1, []) == Front(2, []))
        self.assertTrue(Front(3, []) == Front(3, []))

    def test_not_equal_to_other_kinds(self):
        for front in (Front(1, []), Front(1, [(0,)]), Front(2, [(0, 1)])):
            for value in (None, 0, 1, True, "x", [], [(0,)], front.moments(), (1, []), {}, Odd(), Front):
                self.assertIs(front == value, False, value)
                self.assertIs(front != value, True, value)

    def test_both_and_either(self):
        for (axes, left), (other, right) in itertools.product(some_fronts(3, 7), repeat=2):
            if axes == other:
                both = Front(axes, left) & Front(axes, right)
                either = Front(axes, left) | Front(axes, right)
                self.assertIsInstance(both, Front)
                self.assertIsInstance(either, Front)
                for moment in grid(axes):
                    self.assertIs(moment in both, is_open(moment, left) and is_open(moment, right))
                    self.assertIs(moment in either, is_open(moment, left) or is_open(moment, right))
                self.assertEqual(both.moments(), Front(axes, both.moments()).moments())
                self.assertEqual(either, Front(axes, left + right))

    def test_operands_stay(self):
        left, right = Front(2, [(0, 2), (1, 1)]), Front(2, [(2, 0)])
        self.assertEqual((left & right).moments(), [(2, 1)])
        self.assertEqual((left | right).moments(), [(0, 2), (1, 1), (2, 0)])
        self.assertEqual([left.moments(), right.moments()], [[(0, 2), (1, 1)], [(2, 0)]])

    def test_advances(self):
        for (axes, left), (other, right) in itertools.product(some_fronts(4, 7), repeat=2):
            if axes == other:
                all_open = all(is_open(m, right) for m in left)
                self.assertIs(Front(axes, left).advances(Front(axes, right)), all_open)
        self.assertIs(Front(1, [(3,)]).advances(other=Front(1, [(2,)])), True)
        self.assertIs(Front(1, [(2,)]).advances(Front(1, [(3,)])), False)
        self.assertIs(Front(1, [(2,)]).advances(Front(1, [(2,)])), True)
        self.assertIs(Front.nothing(1).advances(Front.nothing(1)), True)
        self.assertIs(Front(1, [(2,)]).advances(Front.nothing(1)), False)

    def test_unlike_axes(self):
        for one, two in itertools.permutations(range(1, 5), 2):
            for left in (Front.everything(one), Front.nothing(one)):
                for right in (Front.everything(two), Front.nothing(two)):
                    told = {"left": one, "right": two}
                    refused(self, UnlikeAxes, told, lambda: left & right)
                    refused(self, UnlikeAxes, told, lambda: left | right)
                    refused(self, UnlikeAxes, told, left.advances, right)

    def test_no_fronts_as_operands(self):
        for value in (None, 1, [(0,)]):
            with self.assertRaises(TypeError):
                Front(1, []) & value
            with self.assertRaises(TypeError):
                Front(1, []) | value


class Folding(unittest.TestCase):
    def test_example_of_the_interface(self):
        front = Front(2, [(2, 0), (0, 1), (2, 3)])
        told = [front.moments(), front.fold((0, 0)), front.fold((1, 0)), front.parting((0, 0), (1, 0))]
        self.assertEqual(told, [[(0, 1), (2, 0)], (0, 0), (1, 0), (0, 1)])

    def test_meet_of_the_joins(self):
        for axes, moments in some_fronts(5, 12):
            front = Front(axes, moments)
            for moment in grid(axes):
                joins = [join_of(moment, low) for low in front.moments()]
                folded = tuple(min(join[k] for join in joins) if joins else 0 for k in range(axes))
                self.assertEqual(front.fold(moment), folded)

    def test_nothing_open(self):
        for axes in range(1, 5):
            for moment in grid(axes) + [(GREAT,) * axes]:
                self.assertEqual(Front.nothing(axes).fold(moment), (0,) * axes)

    def test_everything_open(self):
        for axes in range(1, 5):
            for moment in grid(axes):
                self.assertEqual(Front.everything(axes).fold(moment), moment)

    def test_open_moments_tell_the_fold_as_the_moment(self):
        for axes, moments in some_fronts(6, 6):
            front = Front(axes, moments)
            for moment in grid(axes):
                fold = front.fold(moment)
                if moment in front:
                    self.assertEqual(fold, moment)
                for at in grid(axes):
                    if at in front:
                        self.assertIs(before(moment, at), before(fold, at))

    def test_by_two_fronts(self):
        for (axes, left), (other, right) in itertools.product(some_fronts(7, 5), repeat=2):
            if axes == other and left and right:
                one, two = Front(axes, left), Front(axes, right)
                for moment in grid(axes):
                    folds = one.fold(moment), two.fold(moment)
                    self.assertEqual((one | two).fold(moment), meet_of(*folds))
                    self.assertEqual((one & two).fold(moment), join_of(*folds))

    def test_great_coordinates(self):
        front = Front(2, [(GREAT, 0), (GREAT - 5, 9)])
        self.assertEqual(front.fold((3, 4)), (GREAT - 5, 4))
        self.assertEqual(front.fold(moment=(GREAT - 2, 12)), (GREAT - 2, 12))

    def test_parting_is_the_least(self):
        for axes, moments in some_fronts(8, 5):
            front = Front(axes, moments)
            some = random.Random(axes).sample(grid(axes), 6)
            for first, second in itertools.product(some, repeat=2):
                parts = [at for at in grid(axes) if at in front and before(first, at) != before(second, at)]
                least = min(parts) if parts else None
                self.assertEqual(front.parting(first, second), least)
                self.assertIs(front.fold(first) == front.fold(second), least is None)

    def test_parting_great_coordinates(self):
        front = Front(2, [(GREAT, 0), (0, GREAT)])
        self.assertEqual(front.parting((GREAT - 1, 5), (GREAT - 1, 6)), (GREAT, 5))
        self.assertEqual(front.parting(first=(3, 0), second=(1, 0)), (1, GREAT))
        self.assertIsNone(Front(2, [(GREAT, GREAT)]).parting((GREAT, 1), (2, GREAT)))

    def test_parting_nothing(self):
        for axes in range(1, 5):
            self.assertIsNone(Front.nothing(axes).parting((0,) * axes, (3,) * axes))
            self.assertIsNone(Front.everything(axes).parting((3,) * axes, (3,) * axes))

    def test_the_front_stays(self):
        front = Front(2, [(2, 0), (0, 1)])
        front.fold((5, 5))
        front.parting((0, 0), (1, 0))
        front.advances(Front(2, []))
        self.assertEqual(front, Front(2, [(2, 0), (0, 1)]))


if __name__ == "__main__":
    unittest.main()
