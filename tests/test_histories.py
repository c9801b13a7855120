"""Histories: points 11 to 15."""

import itertools
import random
import unittest

from deltamill.bags import Bag
from deltamill.errors import BadAxes, BadCount, BadMoment, BadRow, DoubleMoment, UnlikeAxes
from deltamill.fronts import Front
from deltamill.histories import History, first_difference
from deltamill.moments import before
from deltamill.polynomials import Polynomial
from samples import GREAT, NO_NUMBERS, NO_ROWS, Odd, refused

# Moments up to this coordinate are looked at; changes and fronts use lesser coordinates.
SIDES = {1: 8, 2: 6, 3: 4, 4: 3}
ROWS = ((), (1,), (1, 2), (-3,), (GREAT,))


def grid(axes):
    return list(itertools.product(range(SIDES[axes]), repeat=axes))


def some_moment(chance, axes):
    return tuple(chance.randrange(SIDES[axes]) for _ in range(axes))


def some_changes(chance, axes, many=8):
    return [(some_moment(chance, axes), chance.choice(ROWS), chance.choice((-2, -1, 0, 1, 1, 2, GREAT)))
            for _ in range(chance.randint(0, many))]


def some_front(chance, axes):
    return Front(axes, [some_moment(chance, axes) for _ in range(chance.choice((0, 1, 1, 2, 3, 4)))])


def cases(seed, many):
    """Pairs of axes and a source of chance, for each number of axes."""
    chance = random.Random(seed)
    return [(axes, chance) for axes in range(1, 5) for _ in range(many)]


def summed(changes):
    """What changes() must tell."""
    found = {}
    for moment, row, count in changes:
        found[moment, row] = found.get((moment, row), 0) + count
    return sorted((moment, row, count) for (moment, row), count in found.items() if count != 0)


def answer_by_hand(changes, moment):
    return Bag([(row, count) for at, row, count in changes if before(at, moment)])


class Making(unittest.TestCase):
    def test_changes(self):
        for axes, chance in cases(1, 40):
            changes = some_changes(chance, axes, 12)
            expected = summed(changes)
            chance.shuffle(changes)
            for given in (changes, tuple(changes), changes[::-1]):
                history = History(axes, given)
                self.assertEqual(history.changes(), expected)
                self.assertEqual(len(history), len(expected))
                self.assertEqual(history.axes, axes)
                self.assertEqual(history.moments(), sorted({moment for moment, _, _ in expected}))

    def test_no_changes(self):
        for axes in range(1, 5):
            for history in (History(axes), History(axes, []), History(axes=axes, changes=()),
                            History(axes, [((0,) * axes, (1,), 0)]),
                            History(axes, [((3,) * axes, (1,), 2), ((3,) * axes, (1,), -2)])):
                self.assertEqual((history.changes(), history.moments(), len(history)), ([], [], 0))
                self.assertEqual(history.at((5,) * axes), Bag())
                self.assertEqual(history.step((3,) * axes), Bag())
                self.assertEqual(history, History(axes))

    def test_great_numbers(self):
        history = History(1, [((GREAT,), (GREAT,), GREAT), ((GREAT,), (GREAT,), GREAT), ((GREAT - 1,), (), -GREAT)])
        self.assertEqual(history.changes(), [((GREAT - 1,), (), -GREAT), ((GREAT,), (GREAT,), 2 * GREAT)])

    def test_bad_axes(self):
        for axes in NO_NUMBERS + (0, -1, 5, GREAT):
            refused(self, BadAxes, {"value": axes}, History, axes)
            refused(self, BadAxes, {"value": axes}, History, axes, [(None, None, None)])
            refused(self, BadAxes, {"value": axes}, History.of_answers, axes, [])
            refused(self, BadAxes, {"value": axes}, History.of_answers, axes, [(None, Bag())])

    def test_bad_moments(self):
        for axes in range(1, 5):
            good = ((0,) * axes, (1,), 1)
            for wrong in NO_ROWS + ((), (0,) * (axes + 1), (0,) * (axes - 1) + (-1,), (True,) * axes):
                refused(self, BadMoment, {"moment": wrong}, History, axes, [(wrong, (1,), 1)])
                refused(self, BadMoment, {"moment": wrong}, History, axes, [good, (wrong, None, None), (5, 5, 5)])

    def test_bad_rows(self):
        for wrong in NO_ROWS:
            refused(self, BadRow, {"value": wrong}, History, 1, [((0,), wrong, 1)])
            refused(self, BadRow, {"value": wrong}, History, 1, [((0,), (), 1), ((0,), wrong, None), (5, 5, 5)])

    def test_bad_counts(self):
        for wrong in NO_NUMBERS:
            refused(self, BadCount, {"value": wrong}, History, 2, [((0, 0), (), wrong)])
            refused(self, BadCount, {"value": wrong}, History, 2, [((0, 0), (), 1), ((0, 0), (), wrong), (5, 5, 5)])

    def test_the_first_fault(self):
        refused(self, BadCount, {"value": "c"}, History, 1, [((0,), (), "c"), ((0,), 4, 1), (5, (), 1)])
        refused(self, BadRow, {"value": 4}, History, 1, [((0,), 4, "c"), (5, 4, "c")])
        refused(self, BadMoment, {"moment": 5}, History, 1, [(5, 4, "c"), ((0,), 4, 1)])

    def test_what_is_passed_and_returned_stays_apart(self):
        changes = [((1,), (7,), 2), ((0,), (7,), 1)]
        history = History(1, changes)
        self.assertEqual(changes, [((1,), (7,), 2), ((0,), (7,), 1)])
        changes.append(((0,), (9,), 1))
        told, moments = history.changes(), history.moments()
        self.assertIsInstance(told, list)
        self.assertIsInstance(told[0], tuple)
        self.assertIsInstance(moments, list)
        told.append(((0,), (8,), 1))
        moments.clear()
        self.assertEqual(history.changes(), [((0,), (7,), 1), ((1,), (7,), 2)])
        self.assertEqual(history.moments(), [(0,), (1,)])


class Answers(unittest.TestCase):
    def test_answers_and_steps(self):
        for axes, chance in cases(2, 6):
            changes = some_changes(chance, axes)
            history = History(axes, changes)
            for moment in grid(axes) + [(GREAT,) * axes]:
                self.assertEqual(history.at(moment), answer_by_hand(changes, moment))
                self.assertEqual(history.step(moment), Bag([(r, n) for at, r, n in changes if at == moment]))
            self.assertEqual(history.changes(), summed(changes))

    def test_by_name(self):
        history = History(1, [((1,), (7,), 1), ((2,), (7,), 1)])
        self.assertEqual(history.at(moment=(2,)).pairs(), [((7,), 2)])
        self.assertEqual(history.step(moment=(2,)).pairs(), [((7,), 1)])

    def test_bad_moments(self):
        for axes in range(1, 5):
            for history in (History(axes), History(axes, [((0,) * axes, (7,), 1)])):
                for wrong in NO_ROWS + ((), (0,) * (axes + 1), (0,) * (axes - 1), (-1,) * axes, (False,) * axes):
                    refused(self, BadMoment, {"moment": wrong}, history.at, wrong)
                    refused(self, BadMoment, {"moment": wrong}, history.step, wrong)

    def test_of_answers(self):
        for axes, chance in cases(3, 25):
            moments = list({some_moment(chance, axes) for _ in range(chance.randint(0, 7))})
            answers = [(at, Bag([(chance.choice(ROWS), chance.randint(-3, 3)) for _ in range(3)])) for at in moments]
            history = History.of_answers(axes, answers)
            self.assertIsInstance(history, History)
            self.assertEqual(history.axes, axes)
            for moment, bag in answers:
                self.assertEqual(history.at(moment), bag)
            self.assertTrue(set(history.moments()) <= set(moments))
            self.assertEqual(History.of_answers(axes, answers[::-1]), history)

    def test_of_answers_takes_back(self):
        history = History.of_answers(2, [((1, 1), Bag.of((7,))), ((0, 1), Bag.of((7,))), ((1, 0), Bag.of((7,)))])
        self.assertEqual(history.changes(), [((0, 1), (7,), 1), ((1, 0), (7,), 1), ((1, 1), (7,), -1)])
        self.assertEqual(History.of_answers(axes=1, answers=[]), History(1))
        self.assertIsInstance(vars(History)["of_answers"], staticmethod)

    def test_of_answers_faults(self):
        bag = Bag.of((1,))
        refused(self, DoubleMoment, {"moment": (1, 0)}, History.of_answers, 2,
                [((1, 0), bag), ((0, 0), bag), ((1, 0), bag), (5, bag)])
        refused(self, DoubleMoment, {"moment": (0,)}, History.of_answers, 1, [((0,), Bag()), ((0,), Bag())])
        refused(self, BadMoment, {"moment": 5}, History.of_answers, 2, [((1, 0), bag), (5, bag), ((1, 0), bag)])
        for wrong in NO_ROWS + ((), (0, 0), (-1,)):
            refused(self, BadMoment, {"moment": wrong}, History.of_answers, 1, [((0,), bag), (wrong, bag)])

    def test_of_answers_leaves_its_arguments(self):
        bags = [Bag.of((1,)), Bag.of((1,), (2,))]
        answers = [((1,), bags[1]), ((0,), bags[0])]
        history = History.of_answers(1, answers)
        self.assertEqual(answers, [((1,), bags[1]), ((0,), bags[0])])
        self.assertEqual([bag.pairs() for bag in bags], [[((1,), 1)], [((1,), 1), ((2,), 1)]])
        answers.clear()
        self.assertEqual(history.changes(), [((0,), (1,), 1), ((1,), (2,), 1)])


class Operators(unittest.TestCase):
    def test_two_histories(self):
        for axes, chance in cases(4, 30):
            one, two = some_changes(chance, axes), some_changes(chance, axes)
            a, b = History(axes, one), History(axes, two)
            minus = [(moment, row, -count) for moment, row, count in two]
            for told, changes in ((a + b, one + two), (a - b, one + minus), (-b, minus), (a - a, []), (a + a, one * 2)):
                self.assertIsInstance(told, History)
                self.assertEqual(told.axes, axes)
                self.assertEqual(told.changes(), summed(changes))
            self.assertEqual([a.changes(), b.changes()], [summed(one), summed(two)])

    def test_multiples(self):
        for axes, chance in cases(5, 10):
            changes = some_changes(chance, axes)
            history = History(axes, changes)
            for number in (-GREAT, -1, 0, 1, 2, GREAT):
                expected = summed([(moment, row, count * number) for moment, row, count in changes])
                for told in (history * number, number * history):
                    self.assertIsInstance(told, History)
                    self.assertEqual((told.axes, told.changes()), (axes, expected))
            self.assertEqual(history.changes(), summed(changes))

    def test_unlike_axes(self):
        for one, two in itertools.permutations(range(1, 5), 2):
            left, right = History(one), History(two, [((0,) * two, (), 1)])
            refused(self, UnlikeAxes, {"left": one, "right": two}, lambda: left + right)
            refused(self, UnlikeAxes, {"left": one, "right": two}, lambda: left - right)
            refused(self, UnlikeAxes, {"left": two, "right": one}, lambda: right + left)
            refused(self, UnlikeAxes, {"left": two, "right": one}, lambda: right - left)

    def test_other_operands(self):
        history = History(1, [((0,), (), 1)])
        for value in (True, False, None, 1.0, "a", [1], Bag(), History(1), Polynomial()):
            with self.assertRaises(TypeError):
                history * value
            with self.assertRaises(TypeError):
                value * history
        for value in (1, None, [], Bag()):
            with self.assertRaises(TypeError):
                history + value
            with self.assertRaises(TypeError):
                history - value

    def test_equal_histories(self):
        one = History(1, [((1,), (7,), 1), ((0,), (7,), 1)])
        self.assertTrue(one == History(1, [((0,), (7,), 1), ((1,), (7,), 3), ((1,), (7,), -2)]))
        self.assertFalse(one != History(1, [((0,), (7,), 1), ((1,), (7,), 1)]))
        for changes in ([], [((0,), (7,), 1)], [((1,), (7,), 1), ((0,), (7,), 2)], [((1,), (7,), 1), ((0,), (8,), 1)],
                        [((2,), (7,), 1), ((0,), (7,), 1)]):
            self.assertFalse(one == History(1, changes))
            self.assertTrue(one != History(1, changes))
        self.assertFalse(History(1) == History(2))
        self.assertTrue(History(1) != History(2))

    def test_not_equal_to_other_kinds(self):
        for history in (History(1), History(1, [((0,), (), 1)])):
            others = (None, 0, 1, True, (), [], history.changes(), (1, []), {}, Bag(), Front(1, []), Odd(), History)
            for value in others:
                self.assertIs(history == value, False)
                self.assertIs(history != value, True)


class FoldedAndSeen(unittest.TestCase):
    def test_example_of_the_interface(self):
        history = History(2, [((0, 0), (7,), 1)])
        front = Front(2, [(1, 0), (0, 1)])
        self.assertEqual([history.folded(front).changes(), history.seen(front).changes()],
                         [[((0, 0), (7,), 1)], [((0, 1), (7,), 1), ((1, 0), (7,), 1), ((1, 1), (7,), -1)]])

    def test_folded_moves_each_change(self):
        for axes, chance in cases(6, 25):
            changes, front = some_changes(chance, axes), some_front(chance, axes)
            history = History(axes, changes)
            folded = history.folded(front)
            self.assertIsInstance(folded, History)
            self.assertEqual(folded.axes, axes)
            self.assertEqual(folded.changes(), summed([(front.fold(at), row, count) for at, row, count in changes]))
            self.assertLessEqual(len(folded), len(history))
            self.assertEqual(history.changes(), summed(changes))

    def test_answers_at_open_moments_stay(self):
        for axes, chance in cases(7, 5):
            changes, front = some_changes(chance, axes), some_front(chance, axes)
            folded, seen = History(axes, changes).folded(front), History(axes, changes).seen(front)
            for moment in grid(axes):
                if moment in front:
                    self.assertEqual(folded.at(moment), answer_by_hand(changes, moment))
                    self.assertEqual(seen.at(moment), answer_by_hand(changes, moment))
                else:
                    self.assertEqual(seen.at(moment), Bag())

    def test_seen_changes_are_open(self):
        for axes, chance in cases(8, 40):
            history, front = History(axes, some_changes(chance, axes)), some_front(chance, axes)
            seen = history.seen(front=front)
            self.assertIsInstance(seen, History)
            self.assertEqual(seen.axes, axes)
            self.assertTrue(all(moment in front for moment in seen.moments()))
            self.assertEqual(seen.seen(front), seen)
            self.assertEqual(history.folded(front=front).seen(front), seen)

    def test_nothing_and_everything_open(self):
        for axes, chance in cases(9, 10):
            changes = some_changes(chance, axes)
            history = History(axes, changes)
            whole, none = Front.everything(axes), Front.nothing(axes)
            self.assertEqual(history.seen(whole), history)
            self.assertEqual(history.folded(whole), history)
            self.assertEqual(history.seen(none), History(axes))
            self.assertEqual(history.folded(none),
                             History(axes, [((0,) * axes, row, count) for _, row, count in changes]))
            self.assertEqual(History(axes).seen(none), History(axes))
            self.assertEqual(History(axes).folded(whole), History(axes))

    def test_one_minimal_moment(self):
        for axes, chance in cases(10, 15):
            history, low = History(axes, some_changes(chance, axes)), some_moment(chance, axes)
            front = Front(axes, [low])
            self.assertEqual(history.folded(front), history.seen(front))

    def test_one_front_after_the_other(self):
        for axes, chance in cases(11, 40):
            history = History(axes, some_changes(chance, axes))
            one, two = some_front(chance, axes), some_front(chance, axes)
            both = one & two
            self.assertTrue(both.advances(one))
            self.assertEqual(history.folded(one).folded(both), history.folded(both))
            self.assertEqual(history.folded(one).seen(both), history.seen(both))
            self.assertEqual(history.seen(one).seen(both), history.seen(both))

    def test_same_answers_exactly_if_seen_alike(self):
        for axes, chance in cases(12, 12):
            front = some_front(chance, axes)
            a = History(axes, some_changes(chance, axes, 2))
            b = chance.choice((History(axes, some_changes(chance, axes, 2)), a.folded(front), a.seen(front)))
            alike = all(a.at(moment) == b.at(moment) for moment in grid(axes) if moment in front)
            self.assertIs(a.seen(front) == b.seen(front), alike)

    def test_six_minimal_moments(self):
        lows = [(k, 5 - k, 2 * k, GREAT) for k in range(6)]
        front = Front(4, lows)
        history = History(4, [((0, 0, 0, 0), (7,), 1), ((2, 2, 2, 2), (7,), 1)])
        seen = history.seen(front)
        self.assertTrue(all(moment in front for moment in seen.moments()))
        for moment in itertools.product(range(7), range(7), (0, 4, 10), (GREAT - 1, GREAT)):
            self.assertEqual(seen.at(moment), history.at(moment) if moment in front else Bag())

    def test_many_changes(self):
        chance = random.Random(13)
        moments = [tuple(chance.randrange(GREAT) for _ in range(4)) for _ in range(200)]
        history = History(4, [(moment, (k,), 1) for k, moment in enumerate(moments)])
        front = Front(4, [tuple(chance.randrange(GREAT) for _ in range(4)) for _ in range(6)])
        seen = history.seen(front)
        self.assertEqual(seen.at((GREAT,) * 4), history.at((GREAT,) * 4))
        self.assertIsNone(first_difference(history, history.folded(front), front))

    def test_unlike_axes(self):
        for one, two in itertools.permutations(range(1, 5), 2):
            for front in (Front.nothing(two), Front.everything(two)):
                refused(self, UnlikeAxes, {"left": one, "right": two}, History(one).folded, front)
                refused(self, UnlikeAxes, {"left": one, "right": two}, History(one).seen, front)


class FirstDifference(unittest.TestCase):
    def test_against_the_definition(self):
        for axes, chance in cases(14, 12):
            front, changes = some_front(chance, axes), some_changes(chance, axes, 4)
            a = History(axes, changes)
            other = History(axes, some_changes(chance, axes, 4))
            b = chance.choice((other, a.folded(front), History(axes, changes[1:])))
            expected = None
            for moment in sorted(grid(axes), reverse=True):
                if moment in front and a.at(moment) != b.at(moment):
                    expected = (moment, min(row for row in ROWS if a.at(moment)[row] != b.at(moment)[row]))
            self.assertEqual(first_difference(a, b, front), expected)
            self.assertEqual(a.changes(), summed(changes))

    def test_kinds_and_names(self):
        a, b = History(1, [((1,), (7,), 1)]), History(1, [((1,), (7,), 2), ((1,), (6,), 1)])
        told = first_difference(front=Front.everything(1), second=b, first=a)
        self.assertIsInstance(told, tuple)
        self.assertEqual(told, ((1,), (6,)))
        self.assertEqual(first_difference(a, b, Front(1, [(GREAT,)])), ((GREAT,), (6,)))

    def test_no_difference(self):
        a = History(2, [((0, 5), (7,), 1), ((5, 0), (8,), 1)])
        b = History(2, [((1, 5), (7,), 1), ((5, 1), (8,), 1)])
        self.assertIsNone(first_difference(a, a, Front.everything(2)))
        self.assertIsNone(first_difference(a, b, Front.nothing(2)))
        self.assertIsNone(first_difference(a, b, Front(2, [(1, 1)])))
        self.assertEqual(first_difference(a, b, Front(2, [(1, 0)])), ((5, 0), (8,)))

    def test_unlike_axes(self):
        for one, two in itertools.permutations(range(1, 5), 2):
            for third in range(1, 5):
                refused(self, UnlikeAxes, {"left": one, "right": two},
                        first_difference, History(one), History(two), Front.nothing(third))
            refused(self, UnlikeAxes, {"left": one, "right": two},
                    first_difference, History(one), History(one), Front.everything(two))


if __name__ == "__main__":
    unittest.main()
