"""The sides of machines, their fronts, memories and refusals: points 26 to 28."""

import random
import unittest

from deltamill.base import Machine
from deltamill.errors import NoSide, NotAdvanced, TooLate, UnlikeAxes
from deltamill.fronts import Front
from deltamill.histories import History
from deltamill.machines import machine_of
from deltamill.reader import read
from samples import GREAT, NO_NUMBERS, Odd, refused

# For parts of each kind, the sides that watch each of its sides.
WATCHERS = {
    "choose[c0=c1](a)": [[]], "map[c1,c0](a)": [[]], "plus(a,b)": [[], []], "less(a,b)": [[], []],
    "join[0=1](a,b)": [[1], [0]], "without[0=1](a,b)": [[1], [0, 1]], "distinct(a)": [[0]],
    "group[0;count](a)": [[0]], "top[0;1](a)": [[0]], "loop[x](a,map[c1,c0](x))": [[0]],
    "loop[x](plus(a,b),plus(x,c))": [[0, 1, 2], [0, 1, 2], [0, 1, 2]]}


def machines(axes=2):
    """Pairs of a text and the machine of its plan."""
    return [(text, machine_of(read(text), axes)) for text in WATCHERS]


def some_moment(chance, axes, size=4):
    return tuple(chance.randrange(size) for _ in range(axes))


def some_front(chance, front):
    """A front that advances the front."""
    lows = front.moments()
    if not lows:
        return front
    moments = [tuple(at + chance.choice((0, 0, 1, 2)) for at in chance.choice(lows))
               for _ in range(chance.choice((0, 1, 1, 2, 3)))]
    return Front(front.axes, moments)


def some_news(chance, front, many=4, size=4):
    """A history of rows of two columns at open moments."""
    moments = [moment for moment in (some_moment(chance, front.axes, size) for _ in range(many)) if moment in front]
    return History(front.axes, [(moment, (chance.randrange(3), chance.randrange(3)), chance.choice((-2, -1, 1, 1, 2)))
                                for moment in moments])


def state_of(machine):
    """All that a machine tells of itself."""
    sides = range(machine.sides)
    return ([machine.front_of(side).moments() for side in sides], [machine.memory(side).changes() for side in sides],
            machine.kept, machine.rounds().changes() if hasattr(machine, "rounds") else None)


class Sides(unittest.TestCase):
    def test_attributes(self):
        for axes in (1, 2, 3):
            for text, machine in machines(axes):
                self.assertIsInstance(machine, Machine)
                self.assertEqual(machine.axes, axes)
                self.assertEqual(machine.sides, len(WATCHERS[text]), text)
                self.assertEqual(machine.kept, 0)

    def test_methods_of_the_class_itself(self):
        for name in ("take", "close", "front_of", "memory", "kept"):
            self.assertIn(name, vars(Machine))
        self.assertIsInstance(vars(Machine)["kept"], property)

    def test_at_first(self):
        for _, machine in machines():
            for side in range(machine.sides):
                self.assertEqual(machine.front_of(side), Front.everything(2))
                self.assertEqual(machine.memory(side), History(2))

    def test_by_name(self):
        machine = machine_of(node=read("distinct(a)"), axes=1)
        told = machine.take(side=0, news=History(1, [((2,), (7,), 3)]))
        self.assertEqual(told.changes(), [((2,), (7,), 1)])
        self.assertIsNone(machine.close(side=0, front=Front(1, [(1,)])))
        self.assertEqual(machine.front_of(side=0), Front(1, [(1,)]))
        self.assertEqual(machine.memory(side=0).changes(), [((2,), (7,), 3)])


class Closing(unittest.TestCase):
    def test_close_sets_the_front_of_the_side(self):
        for text, machine in machines():
            for side in range(machine.sides):
                fronts = [machine.front_of(place) for place in range(machine.sides)]
                for front in (Front(2, [(0, 2), (1, 1)]), Front(2, [(0, 2), (1, 1)]), Front(2, [(2, 1)]),
                              Front.nothing(2), Front.nothing(2)):
                    self.assertIsNone(machine.close(side, front))
                    fronts[side] = front
                    self.assertEqual([machine.front_of(place) for place in range(machine.sides)], fronts, text)

    def test_news_at_the_edge_of_the_front(self):
        for text, machine in machines():
            for side in range(machine.sides):
                machine.close(side, Front(2, [(0, 2), (2, 1)]))
                for moment in ((0, 2), (2, 1), (5, 5), (GREAT, 2)):
                    machine.take(side, History(2, [(moment, (0, 1), 1)]))
                for moment in ((0, 1), (1, 1), (2, 0), (0, 0)):
                    refused(self, TooLate, {"moment": moment}, machine.take, side, History(2, [(moment, (0, 1), 1)]))

    def test_nothing_open(self):
        for _, machine in machines():
            for side in range(machine.sides):
                machine.close(side, Front.nothing(2))
                self.assertEqual(machine.take(side, History(2)), History(2))
                refused(self, TooLate, {"moment": (7, 7)}, machine.take, side, History(2, [((7, 7), (0, 1), 1)]))
                refused(self, NotAdvanced, {"moment": (9, 0)}, machine.close, side, Front(2, [(9, 0)]))


class Memories(unittest.TestCase):
    def test_example(self):
        machine = machine_of(read("join[](a,b)"), 2)
        told = machine.take(0, History(2, [((0, 0), (7,), 1), ((1, 0), (7,), 1)]))
        self.assertEqual(len(told), 0)
        self.assertIsNone(machine.close(1, Front(2, [(1, 1)])))
        self.assertEqual((machine.memory(0).changes(), machine.kept), ([((1, 1), (7,), 2)], 1))

    def test_who_watches_whom(self):
        news = History(1, [((0,), (1, 2), 1), ((3,), (1, 2), 1)])
        for text, watchers in WATCHERS.items():
            for closed in range(len(watchers)):
                machine = machine_of(read(text), 1)
                for side in range(machine.sides):
                    machine.take(side, news)
                    if side != closed:
                        machine.close(side, Front.nothing(1))
                machine.close(closed, Front(1, [(2,)]))
                for side, watching in enumerate(watchers):
                    expected = [((2,), (1, 2), 1), ((3,), (1, 2), 1)] if closed in watching else []
                    self.assertEqual(machine.memory(side).changes(), expected, (text, side, closed))

    def test_memory_is_the_input_folded_by_the_watching_front(self):
        chance = random.Random(1)
        for _ in range(25):
            for text, machine in machines(chance.choice((1, 2, 3))):
                inputs = [History(machine.axes) for _ in range(machine.sides)]
                for _ in range(6):
                    side = chance.randrange(machine.sides)
                    news = some_news(chance, machine.front_of(side))
                    machine.take(side, news)
                    inputs[side] = inputs[side] + news
                    if chance.random() < 0.5:
                        side = chance.randrange(machine.sides)
                        machine.close(side, some_front(chance, machine.front_of(side)))
                    self.check(machine, inputs, WATCHERS[text])

    def check(self, machine, inputs, watchers):
        kept = 0
        for side, watching in enumerate(watchers):
            front = Front.nothing(machine.axes)
            for place in watching:
                front = front | machine.front_of(place)
            expected = inputs[side].folded(front) if len(front) else History(machine.axes)
            self.assertEqual(machine.memory(side), expected)
            kept += len(expected)
        self.assertEqual(machine.kept, kept)

    def test_a_change_that_is_taken_back(self):
        machine = machine_of(read("distinct(a)"), 2)
        machine.take(0, History(2, [((0, 0), (1,), 1), ((1, 0), (1,), -1)]))
        self.assertEqual(machine.kept, 2)
        machine.close(0, Front(2, [(1, 0)]))
        self.assertEqual((machine.kept, machine.memory(0)), (0, History(2)))


class Refusals(unittest.TestCase):
    def test_no_side(self):
        news, front = History(2, [((0, 0), (0, 1), 1)]), Front.everything(2)
        for text, machine in machines():
            machine.take(0, news)
            before = state_of(machine)
            for side in (-1, machine.sides, machine.sides + 5, GREAT, -GREAT) + NO_NUMBERS:
                for call in ((machine.take, side, news), (machine.close, side, front), (machine.front_of, side),
                             (machine.memory, side)):
                    refused(self, NoSide, {"value": side}, *call)
            self.assertEqual(state_of(machine), before, text)

    def test_unlike_axes(self):
        for axes in (1, 2, 3):
            for text, machine in machines(axes):
                before = state_of(machine)
                for other in (1, 2, 3, 4):
                    if other != axes:
                        told = {"left": axes, "right": other}
                        for news in (History(other), History(other, [((0,) * other, (0, 1), 1)])):
                            refused(self, UnlikeAxes, told, machine.take, 0, news)
                        for front in (Front.everything(other), Front.nothing(other)):
                            refused(self, UnlikeAxes, told, machine.close, 0, front)
                self.assertEqual(state_of(machine), before, text)

    def test_too_late(self):
        for text, machine in machines():
            for side in range(machine.sides):
                machine.close(side, Front(2, [(0, 2), (1, 1)]))
                before = state_of(machine)
                news = History(2, [((1, 1), (0, 1), 1), ((3, 0), (0, 0), 1), ((0, 1), (2, 2), -1), ((9, 0), (1, 1), 1)])
                refused(self, TooLate, {"moment": (0, 1)}, machine.take, side, news)
                self.assertEqual(state_of(machine), before, text)
                self.assertEqual(machine.take(side, History(2)), History(2))

    def test_not_advanced(self):
        for text, machine in machines():
            for side in range(machine.sides):
                machine.close(side, Front(2, [(0, 2), (1, 1)]))
                before = state_of(machine)
                for moments, first in (([(0, 0)], (0, 0)), ([(0, 1), (3, 0)], (0, 1)), ([(0, 2), (1, 0)], (1, 0)),
                                       ([(4, 0), (1, 1), (0, 5)], (4, 0)), ([(2, 0), (1, 1), (0, 1)], (0, 1))):
                    refused(self, NotAdvanced, {"moment": first}, machine.close, side, Front(2, moments))
                self.assertEqual(state_of(machine), before, text)

    def test_which_comes_first(self):
        late, wrong = History(2, [((0, 0), (0, 1), 1)]), History(3)
        for _, machine in machines():
            machine.close(0, Front(2, [(1, 1)]))
            for side in (-1, True, machine.sides, Odd()):
                refused(self, NoSide, {"value": side}, machine.take, side, wrong)
                refused(self, NoSide, {"value": side}, machine.take, side, late)
                refused(self, NoSide, {"value": side}, machine.close, side, Front.everything(3))
                refused(self, NoSide, {"value": side}, machine.close, side, Front.everything(2))
            refused(self, UnlikeAxes, {"left": 2, "right": 1}, machine.take, 0, History(1, [((0,), (0, 1), 1)]))
            refused(self, UnlikeAxes, {"left": 2, "right": 1}, machine.close, 0, Front.everything(1))


class Copies(unittest.TestCase):
    def test_what_is_passed_and_returned(self):
        for text, machine in machines():
            news, front = History(2, [((1, 1), (0, 1), 1)]), Front(2, [(0, 1), (1, 0)])
            told = machine.take(0, news)
            machine.close(0, front)
            before = state_of(machine)
            memory, got = machine.memory(0), machine.front_of(0)
            for value in (news, front, told, memory, got):
                value.axes = 4
            memory.changes().clear()
            got.moments().clear()
            self.assertEqual(state_of(machine), before, text)
            self.assertEqual((machine.front_of(0).axes, machine.memory(0).axes), (2, 2))

    def test_arguments_stay(self):
        chance = random.Random(2)
        for text, machine in machines():
            for _ in range(4):
                side = chance.randrange(machine.sides)
                news, front = some_news(chance, machine.front_of(side)), some_front(chance, machine.front_of(side))
                before = (news.changes(), front.moments())
                machine.take(side, news)
                machine.close(side, front)
                self.assertEqual((news.changes(), front.moments()), before, text)


if __name__ == "__main__":
    unittest.main()
