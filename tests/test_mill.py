"""Mills: points 49 to 52."""

import itertools
import random
import unittest

from deltamill.bags import Bag
from deltamill.errors import (BadAxes, BadCount, BadMoment, BadPlan, BadRow, Forgotten, NameTaken, NoColumn, NoOutput,
                              NoPart, NoSide, NoTable, NotAdvanced, StillOpen, TooLate, UnknownTable)
from deltamill.fronts import Front
from deltamill.histories import History
from deltamill.mill import Mill
from deltamill.reader import read
from by_hand import dict_of
from mill_by_hand import Model, is_open, minimal
from plan_samples import WIDTHS, fitting_plan, growing_loop, some_bag
from samples import GREAT, NO_NUMBERS, NO_ROWS, Odd, refused

PATHS = "loop[x](a,map[c0,c3](join[1=0](x,a)))"


def as_dict(history):
    return {(moment, row): count for moment, row, count in history.changes()}


def some_moment(chance, axes, most=2):
    return tuple(chance.randint(0, most) for _ in range(axes))


def some_news(chance, model, many, most=2):
    """Changes at moments that are open in the fronts of their tables."""
    found = []
    for _ in range(many):
        name = chance.choice(sorted(model.widths))
        moment = some_moment(chance, model.axes, most)
        row = tuple(chance.randrange(3) for _ in range(model.widths[name]))
        if is_open(moment, model.fronts[name]):
            found.append((name, moment, row, chance.choice((-1, 1, 1, 2))))
    return found


def some_front(chance, lows, axes):
    """Moments that are open in a front."""
    if not lows or chance.random() < 0.1:
        return []
    return [tuple(at + chance.choice((0, 0, 1, 1, 2)) for at in chance.choice(lows))
            for _ in range(chance.randint(1, 2))]


def some_plans(chance, kinds=None):
    plans = {output: fitting_plan(chance, 3)[0] for output in chance.sample(("a", "out", "zz"), chance.randint(1, 2))}
    if chance.random() < 0.4:
        plans["loop"] = growing_loop(chance, 2)
    return plans


class Pair:
    """A mill and its model."""

    def __init__(self, test, axes, widths, plans):
        self.test = test
        self.mill, self.model = Mill(axes, widths, plans), Model(axes, widths, plans)

    def tell(self, news):
        self.test.assertEqual(self.mill.tell(news), self.model.tell(news), self.model.plans)

    def close(self, moments, *names):
        kept = self.mill.kept
        told = self.mill.close(moments, *names)
        self.test.assertEqual(told, self.model.close(moments, names or self.model.widths), self.model.plans)
        self.test.assertLessEqual(self.mill.kept, kept)
        return told

    def forget(self, moments, *outputs):
        kept = self.mill.kept
        self.test.assertIsNone(self.mill.forget(moments, *outputs))
        for output in outputs or self.model.plans:
            self.model.since[output] = minimal(moments)
        self.test.assertLessEqual(self.mill.kept, kept)

    def check(self):
        """All that the mill tells without a change."""
        model, mill = self.model, self.mill
        for name in model.widths:
            self.test.assertEqual(mill.table_front(name).moments(), minimal(model.fronts[name]))
        for output in model.plans:
            self.test.assertEqual(mill.output_front(output).moments(), model.output_front(output))
            self.test.assertEqual(mill.output_since(output).moments(), model.since[output])
            self.test.assertTrue(mill.output_front(output).advances(mill.output_since(output)))
        for (output, path, side), expected in model.memories().items():
            self.test.assertEqual(as_dict(mill.memory(output, path, side)), expected, model.plans[output])
        self.test.assertEqual(mill.kept, model.kept())

    def check_answers(self, moments):
        for output in self.model.plans:
            for moment in moments:
                if is_open(moment, self.model.output_front(output)):
                    refused(self.test, StillOpen, {"moment": moment}, self.mill.answer, output, moment)
                elif not is_open(moment, self.model.since[output]):
                    refused(self.test, Forgotten, {"moment": moment}, self.mill.answer, output, moment)
                else:
                    told = self.mill.answer(output, moment)
                    self.test.assertEqual(dict_of(told), self.model.answer(output, moment))


class Example(unittest.TestCase):
    def test_example(self):
        mill = Mill(1, {"a": 1}, {"all": read("distinct(a)")})
        self.assertEqual(mill.tell([("a", (3,), (7,), 1)]), [("all", (3,), (7,), 1)])
        self.assertEqual(mill.tell([("a", (1,), (7,), 1)]), [("all", (1,), (7,), 1), ("all", (3,), (7,), -1)])
        self.assertEqual(mill.close([(2,)]), [("all", (1,), (7,), 1)])
        self.assertEqual(mill.answer("all", (1,)).pairs(), [((7,), 1)])
        self.assertEqual(mill.axes, 1)


class Making(unittest.TestCase):
    def test_axes(self):
        for axes in (0, 4, 5, -1) + NO_NUMBERS:
            refused(self, BadAxes, {"value": axes}, Mill, axes, {}, {"a": ("table", "none")})
        for axes in (1, 2, 3):
            self.assertEqual(Mill(axes=axes, widths={"a": 1}, plans={"a": ("table", "a")}).axes, axes)

    def test_plans(self):
        refused(self, UnknownTable, {"path": (0,), "name": "b"}, Mill, 1, {"a": 1}, {"x": read("plus(b,a)")})
        refused(self, BadPlan, {"path": ()}, Mill, 1, {"a": 1}, {"x": None})
        refused(self, NameTaken, {"path": (), "name": "a"}, Mill, 1, {"a": 1}, {"x": read("loop[a](a,a)")})
        refused(self, NoColumn, {"path": (), "column": 3}, Mill, 1, {"a": 1}, {"x": read("map[c3](a)")})

    def test_the_first_output(self):
        plans = {"b": read("map[c2](a)"), "aa": read("map[c3](a)"), "c": read("map[c1](a)"), "ab": ("table", "a")}
        refused(self, NoColumn, {"path": (), "column": 3}, Mill, 2, {"a": 1}, plans)
        del plans["aa"]
        refused(self, NoColumn, {"path": (), "column": 2}, Mill, 2, {"a": 1}, plans)

    def test_nothing(self):
        mill = Mill(2, {}, {})
        self.assertEqual([mill.tell([]), mill.close([(1, 1)]), mill.forget([]), mill.kept], [[], [], None, 0])
        refused(self, NoTable, {"name": "a"}, mill.tell, [("a", (0, 0), (), 1)])

    def test_begin(self):
        mill = Mill(2, {"a": 1, "b": 0}, {"b": read("a")})
        self.assertEqual(mill.kept, 0)
        for front in (mill.table_front("a"), mill.table_front("b"), mill.output_front("b"), mill.output_since("b")):
            self.assertEqual(front, Front.everything(2))


class AnyMill(unittest.TestCase):
    def run_one(self, chance, axes, plans, widths=WIDTHS):
        pair = Pair(self, axes, widths, plans)
        for _ in range(chance.randint(4, 9)):
            what = chance.random()
            if what < 0.45 or not pair.model.told:
                pair.tell(some_news(chance, pair.model, chance.choice((0, 1, 1, 2, 4))))
            elif what < 0.75:
                names = chance.sample(sorted(widths), chance.choice((0, 0, 0, 1, 2, 3)))
                lows = pair.model.fronts
                common = chance.choice([lows[name] for name in (names or sorted(widths))])
                moments = some_front(chance, common, axes)
                if all(is_open(low, lows[name]) for low in minimal(moments) for name in (names or widths)):
                    pair.close(moments, *names)
            else:
                outputs = chance.sample(sorted(plans), chance.randint(0, len(plans)))
                output = chance.choice(outputs or sorted(plans))
                moments = some_front(chance, pair.model.since[output], axes)
                if chance.random() < 0.6:
                    moments = pair.model.output_front(output)
                if all(is_open(low, pair.model.since[output]) for low in moments for output in outputs or plans) and \
                        all(is_open(low, moments) for output in outputs or plans
                            for low in pair.model.output_front(output)):
                    pair.forget(moments, *outputs)
            pair.check()
        pair.check_answers([some_moment(chance, axes, 5) for _ in range(8)])
        return pair

    def test_one_axis(self):
        chance = random.Random(491)
        for _ in range(60):
            self.run_one(chance, 1, some_plans(chance))

    def test_two_axes(self):
        chance = random.Random(492)
        forgotten = 0
        for _ in range(60):
            pair = self.run_one(chance, 2, some_plans(chance))
            forgotten += any(since != [(0, 0)] for since in pair.model.since.values())
        self.assertGreater(forgotten, 5)

    def test_three_axes(self):
        chance = random.Random(493)
        for _ in range(25):
            self.run_one(chance, 3, some_plans(chance))

    def test_pieces_and_order(self):
        # What was handed on adds up to the same, however the news come.
        chance = random.Random(494)
        for axes in (1, 2, 3):
            for _ in range(12):
                plans = some_plans(chance)
                news = some_news(chance, Model(axes, WIDTHS, plans), 10)
                whole = Mill(axes, WIDTHS, plans).tell(news)
                mill, total = Mill(axes, WIDTHS, plans), {}
                for entry in chance.sample(news, len(news)):
                    for output, moment, row, count in mill.tell([entry]):
                        total[output, moment, row] = total.get((output, moment, row), 0) + count
                self.assertEqual(sorted(key + (count,) for key, count in total.items() if count), whole)


class Tell(unittest.TestCase):
    def setUp(self):
        self.mill = Mill(2, {"a": 2, "b": 1}, {"a": read("b"), "j": read("join[0=0](a,b)")})
        self.mill.tell([("a", (0, 1), (7, 8), 1)])
        self.mill.close([(1, 0)], "b")

    def check_refused(self, error, told, *entries):
        kept = self.mill.kept
        good = ("a", (0, 0), (7, 9), 1)
        refused(self, error, told, self.mill.tell, list(entries))
        refused(self, error, told, self.mill.tell, [good] + list(entries))
        self.assertEqual(self.mill.kept, kept)
        self.assertEqual(self.mill.twin().tell([("b", (1, 0), (7,), 1)]),
                         [("a", (1, 0), (7,), 1), ("j", (1, 1), (7, 8, 7), 1)])

    def test_refusals_in_order(self):
        self.check_refused(NoTable, {"name": "j"}, ("j", None, None, None))
        self.check_refused(NoTable, {"name": ""}, ("", (0,), (1,), 1))
        self.check_refused(BadMoment, {"moment": (0,)}, ("b", (0,), (1, 2), True))
        self.check_refused(BadRow, {"value": (1, 2)}, ("b", (0, 0), (1, 2), True))
        self.check_refused(BadCount, {"value": True}, ("b", (0, 0), (1,), True))
        self.check_refused(TooLate, {"moment": (0, 5)}, ("b", (0, 5), (1,), 1))
        self.check_refused(TooLate, {"moment": (0, 5)}, ("b", (0, 5), (1,), 0))

    def test_the_first_entry(self):
        self.check_refused(TooLate, {"moment": (0, 5)}, ("b", (0, 5), (1,), 1), ("none", (0, 5), (1,), 1))
        self.check_refused(BadCount, {"value": None}, ("b", (1, 5), (1,), None), ("b", (0, 5), (1,), 1))
        self.check_refused(NoTable, {"name": "none"}, ("none", (0, 5), (1,), 1), ("b", (0, 5), (1,), None))

    def test_moments_rows_and_counts(self):
        for moment in NO_ROWS + ((0,), (0, 0, 0), (0, -1), (-1, 0)):
            refused(self, BadMoment, {"moment": moment}, self.mill.tell, [("a", moment, (1, 1), 1)])
        for row in NO_ROWS + ((), (1,), (1, 2, 3)):
            refused(self, BadRow, {"value": row}, self.mill.tell, [("a", (0, 0), row, 1)])
        for count in NO_NUMBERS:
            refused(self, BadCount, {"value": count}, self.mill.tell, [("a", (0, 0), (1, 1), count)])

    def test_the_list(self):
        # Each output, moment and row once, ascending, without zeros.
        told = self.mill.tell([("b", (2, 0), (7,), 1), ("b", (1, 0), (8,), 2), ("b", (2, 0), (7,), 1),
                               ("b", (1, 1), (9,), 1), ("b", (1, 1), (9,), -1), ("b", (3, 3), (5,), 0)])
        self.assertEqual(told, [("a", (1, 0), (8,), 2), ("a", (2, 0), (7,), 2), ("j", (2, 1), (7, 8, 7), 2)])
        self.assertEqual(self.mill.tell([]), [])

    def test_counts_that_cancel(self):
        self.assertEqual(self.mill.tell([("b", (1, 0), (7,), GREAT), ("a", (0, 1), (7, 8), -1)]),
                         [("a", (1, 0), (7,), GREAT)])

    def test_an_output_called_like_a_table(self):
        self.assertEqual(self.mill.tell([("a", (0, 0), (1, 1), 1)]), [])
        self.assertEqual(self.mill.close([(2, 2)], "b"), [])
        self.assertEqual(self.mill.output_front("a").moments(), [(2, 2)])
        self.assertEqual(self.mill.table_front("a").moments(), [(0, 0)])

    def test_what_is_passed_and_returned(self):
        news = [("b", (1, 0), (7,), 1)]
        told = self.mill.tell(news)
        told.clear()
        self.assertEqual(news, [("b", (1, 0), (7,), 1)])
        widths, plans = {"a": 1}, {"out": read("a")}
        mill = Mill(1, widths, plans)
        widths["b"], plans["more"] = 1, read("a")
        refused(self, NoTable, {"name": "b"}, mill.table_front, "b")
        refused(self, NoOutput, {"name": "more"}, mill.output_front, "more")
        widths.clear()
        plans.clear()
        self.assertEqual(mill.tell([("a", (1,), (1,), 1)]), [("out", (1,), (1,), 1)])
        front = mill.table_front("a")
        front.axes = 3
        self.assertEqual(mill.table_front("a").axes, 1)
        mill.close([(2,)])
        bag = mill.answer("out", (1,)) + Bag.of((5,))
        self.assertEqual((len(bag), len(mill.answer("out", (1,)))), (2, 1))


class Close(unittest.TestCase):
    def setUp(self):
        self.mill = Mill(2, {"a": 1, "b": 1}, {"both": read("plus(a,b)"), "left": read("a")})

    def state(self):
        return [self.mill.table_front(name).moments() for name in "ab"] + [self.mill.kept]

    def test_final_changes(self):
        self.mill.tell([("a", (0, 0), (1,), 1), ("a", (3, 0), (2,), 1), ("b", (0, 3), (3,), 1)])
        self.assertEqual(self.mill.close([(2, 0)], "a"), [("left", (0, 0), (1,), 1)])
        self.assertEqual(self.mill.close([(0, 2)], "b"), [("both", (0, 0), (1,), 1)])
        self.assertEqual(self.mill.output_front("both").moments(), [(0, 2), (2, 0)])
        self.assertEqual(self.mill.close([(5, 5)]),
                         [("both", (0, 3), (3,), 1), ("both", (3, 0), (2,), 1), ("left", (3, 0), (2,), 1)])
        self.assertEqual(self.mill.close([]), [])
        self.assertEqual(self.mill.output_front("both"), Front.nothing(2))
        refused(self, TooLate, {"moment": (9, 9)}, self.mill.tell, [("a", (9, 9), (1,), 1)])

    def test_own_moments_behind_a_forget(self):
        # A change that is forgotten into a later moment is not told there.
        self.mill.tell([("a", (1, 1), (1,), 1), ("a", (2, 2), (1,), 1), ("a", (4, 4), (1,), 1)])
        self.assertEqual(self.mill.close([(2, 2)]), [("both", (1, 1), (1,), 1), ("left", (1, 1), (1,), 1)])
        self.mill.forget([(2, 2)])
        self.assertEqual(self.mill.close([(4, 4)]), [("both", (2, 2), (1,), 1), ("left", (2, 2), (1,), 1)])
        self.mill.forget([(3, 3)])
        self.assertEqual(self.mill.close([]), [("both", (4, 4), (1,), 1), ("left", (4, 4), (1,), 1)])
        self.assertEqual(self.mill.answer("left", (4, 4)), Bag([((1,), 3)]))
        self.assertEqual(self.mill.answer("left", (3, 3)), Bag([((1,), 2)]))
        refused(self, Forgotten, {"moment": (2, 9)}, self.mill.answer, "left", (2, 9))

    def test_refusals_in_order(self):
        self.mill.close([(2, 2)], "b")
        self.mill.close([(1, 0), (0, 1)], "a")
        state = self.state()
        for moments, names, error, told in (
                ([(0,), (0, 0)], ("none", "a"), BadMoment, {"moment": (0,)}),
                ([(0, 0), (0, -1), "x"], ("none", "a"), BadMoment, {"moment": (0, -1)}),
                ([(0, 0)], ("a", "none", "b", "other"), NoTable, {"name": "none"}),
                ([(0, 0)], ("both",), NoTable, {"name": "both"}),
                ([(0, 0)], ("b", "a"), NotAdvanced, {"moment": (0, 0)}),
                ([(3, 0), (0, 3), (1, 1)], (), NotAdvanced, {"moment": (0, 3)}),
                ([(3, 0), (0, 3), (4, 0)], ("b", "a"), NotAdvanced, {"moment": (0, 3)}),
                ([(3, 3), (2, 1)], ("b", "a"), NotAdvanced, {"moment": (2, 1)}),
                ([(0, 3), (5, 0)], ("b",), NotAdvanced, {"moment": (0, 3)}),
                ([(0, 0), (0, 0)], ("a", "a"), NotAdvanced, {"moment": (0, 0)})):
            refused(self, error, told, self.mill.close, moments, *names)
            self.assertEqual(self.state(), state)

    def test_the_first_table(self):
        # The first minimal moment that is not open is another one for each table.
        mill = Mill(2, {"b": 0, "a": 0}, {})
        mill.close([(2, 0)], "b")
        mill.close([(0, 2)], "a")
        refused(self, NotAdvanced, {"moment": (3, 0)}, mill.close, [(3, 0), (0, 3)], "b", "a")
        refused(self, NotAdvanced, {"moment": (0, 3)}, mill.close, [(3, 0), (0, 3)], "b")
        refused(self, NotAdvanced, {"moment": (3, 0)}, mill.close, [(3, 0), (0, 3)])

    def test_names_given_twice(self):
        self.mill.tell([("a", (0, 0), (1,), 1)])
        self.assertEqual(self.mill.close([(1, 1), (2, 2), (1, 1)], "a", "a"), [("left", (0, 0), (1,), 1)])
        self.assertEqual(self.state()[:2], [[(1, 1)], [(0, 0)]])
        self.assertEqual(self.mill.close([(1, 1)], "a", "b", "a"), [("both", (0, 0), (1,), 1)])

    def test_moments_that_are_none(self):
        for moment in NO_ROWS:
            refused(self, BadMoment, {"moment": moment}, self.mill.close, [(0, 0), moment])
            refused(self, BadMoment, {"moment": moment}, self.mill.forget, [(0, 0), moment], "none")

    def test_the_argument(self):
        moments = [(1, 1)]
        self.mill.close(moments)
        moments[0] = (0, 0)
        self.assertEqual(self.mill.table_front("a").moments(), [(1, 1)])

    def test_once_at_its_own_moment(self):
        # Over several closes of some of the tables each change of the histories is told once.
        chance = random.Random(511)
        for _ in range(25):
            plans = some_plans(chance)
            pair = Pair(self, 2, WIDTHS, plans)
            pair.tell(some_news(chance, pair.model, 8))
            told = []
            for _ in range(12):
                name = chance.choice(sorted(WIDTHS))
                told.extend(pair.close(some_front(chance, pair.model.fronts[name], 2), name))
                front = pair.model.output_front(min(plans))
                if front and chance.random() < 0.3:
                    since = [low for low in front]
                    if all(is_open(low, pair.model.since[min(plans)]) for low in since):
                        pair.forget(since, min(plans))
            told.extend(pair.close([]))
            expected = sorted((output, moment, row, count) for output, history in pair.model.histories().items()
                              for (moment, row), count in history.items())
            self.assertEqual(sorted(told), expected)


class Forget(unittest.TestCase):
    def setUp(self):
        self.mill = Mill(2, {"a": 1, "b": 1}, {"x": read("a"), "y": read("b"), "z": read("plus(a,b)")})
        self.mill.tell([("a", (1, 1), (1,), 1), ("a", (2, 2), (1,), 1), ("b", (1, 2), (2,), 1)])

    def sinces(self):
        return [self.mill.output_since(output).moments() for output in "xyz"] + [self.mill.kept]

    def test_refusals_in_order(self):
        self.mill.close([(3, 0), (0, 4)], "a")
        self.mill.close([(2, 2)], "b")
        self.mill.forget([(2, 0), (0, 2)], "x")
        state = self.sinces()
        for moments, outputs, error, told in (
                ([(0,)], ("none",), BadMoment, {"moment": (0,)}),
                ([(0, 0)], ("x", "none", "y"), NoOutput, {"name": "none"}),
                ([(0, 0)], ("a",), NoOutput, {"name": "a"}),
                ([(0, 0)], ("y", "x"), NotAdvanced, {"moment": (0, 0)}),
                ([(1, 1), (0, 3), (5, 0)], ("x",), NotAdvanced, {"moment": (1, 1)}),
                ([(3, 0)], ("x",), StillOpen, {"moment": (0, 4)}),
                ([(0, 4), (4, 0)], ("x",), StillOpen, {"moment": (3, 0)}),
                ([(9, 9)], ("x",), StillOpen, {"moment": (0, 4)}),
                ([], ("x",), StillOpen, {"moment": (0, 4)}),
                ([(3, 3)], ("y",), StillOpen, {"moment": (2, 2)}),
                ([(3, 3)], ("z", "y"), StillOpen, {"moment": (2, 2)}),
                # For the first output the second error comes before the first error of the second output.
                ([(2, 2)], ("y", "x"), StillOpen, {"moment": (0, 4)}),
                ([(2, 0), (0, 1)], ("y", "x"), NotAdvanced, {"moment": (0, 1)}),
                ([(5, 5)], (), StillOpen, {"moment": (0, 4)})):
            refused(self, error, told, self.mill.forget, moments, *outputs)
            self.assertEqual(self.sinces(), state)

    def test_answers_behind_a_forget(self):
        self.mill.close([(4, 4)])
        self.assertEqual(self.mill.answer("x", (2, 2)), Bag([((1,), 2)]))
        self.mill.forget([(2, 1)], "x", "x")
        self.assertEqual(self.mill.answer("x", (2, 1)), Bag.of((1,)))
        self.assertEqual(self.mill.answer("x", (3, 3)), Bag([((1,), 2)]))
        refused(self, Forgotten, {"moment": (1, 3)}, self.mill.answer, "x", (1, 3))
        self.assertEqual(self.mill.answer("z", (1, 3)), Bag.of((1,), (2,)))
        self.assertEqual(self.sinces()[:3], [[(2, 1)], [(0, 0)], [(0, 0)]])
        self.assertIsNone(self.mill.forget([(3, 3)]))
        self.assertEqual(self.sinces()[:3], [[(3, 3)]] * 3)
        self.assertEqual(self.mill.answer("z", (3, 3)), Bag([((1,), 2), ((2,), 1)]))

    def test_kept(self):
        self.mill.close([(4, 4)])
        # There is one machine, of the plus, and it remembers nothing; the histories have 2, 1 and 3 changes.
        self.assertEqual(self.mill.kept, 6)
        self.mill.forget([(2, 2)], "x")
        self.assertEqual(self.mill.kept, 5)
        self.mill.forget([(3, 3)])
        self.assertEqual(self.mill.kept, 4)
        self.mill.close([])
        self.assertEqual(self.mill.kept, 4)
        self.mill.forget([], "z")
        self.assertEqual(self.mill.kept, 2)
        refused(self, Forgotten, {"moment": (9, 9)}, self.mill.answer, "z", (9, 9))
        self.mill.forget([])
        self.assertEqual(self.mill.kept, 0)

    def test_pending_changes_count(self):
        self.mill.forget([(0, 0)])
        self.assertEqual(self.mill.kept, 6)
        # The final change folds onto the one that is still open: both together are one.
        self.mill.close([(2, 2)])
        self.mill.forget([(2, 2)])
        self.assertEqual(self.mill.kept, 4)
        self.assertEqual(self.mill.close([]), [("x", (2, 2), (1,), 1), ("z", (2, 2), (1,), 1)])
        self.assertEqual(self.mill.answer("x", (2, 2)), Bag([((1,), 2)]))


class Asking(unittest.TestCase):
    def setUp(self):
        self.mill = Mill(1, {"a": 2}, {"p": read(PATHS), "d": read("distinct(join[](a,a))"), "a": read("a")})
        self.mill.tell([("a", (1,), (1, 2), 1), ("a", (3,), (2, 3), 1)])

    def test_answer(self):
        self.mill.close([(4,)])
        self.mill.forget([(2,)])
        for output in NO_NUMBERS + NO_ROWS + ("none", "A"):
            refused(self, NoOutput, {"name": output}, self.mill.answer, output, None)
        for moment in NO_ROWS + ((), (-1,), (0, 0)):
            refused(self, BadMoment, {"moment": moment}, self.mill.answer, "p", moment)
        refused(self, StillOpen, {"moment": (4,)}, self.mill.answer, "p", (4,))
        refused(self, Forgotten, {"moment": (1,)}, self.mill.answer, "p", (1,))
        self.assertEqual(self.mill.answer(output="p", moment=(2,)), Bag.of((1, 2)))
        self.assertEqual(self.mill.answer("p", (3,)), Bag.of((1, 2), (1, 3), (2, 3)))

    def test_fronts(self):
        for name in ("p", "none", Odd()):
            refused(self, NoTable, {"name": name}, self.mill.table_front, name)
        for name in ("none", "x", Odd()):
            refused(self, NoOutput, {"name": name}, self.mill.output_front, name)
            refused(self, NoOutput, {"name": name}, self.mill.output_since, name)
        self.assertEqual(self.mill.table_front(name="a"), Front.everything(1))
        self.assertEqual(self.mill.output_front(output="a"), self.mill.output_since(output="a"))

    def test_memory(self):
        self.assertEqual(self.mill.memory(output="p", path=(), side=0),
                         History(1, [((1,), (1, 2), 1), ((3,), (2, 3), 1)]))
        self.assertEqual(len(self.mill.memory("d", (), 0)), 4)
        self.assertEqual(len(self.mill.memory("d", (0,), 1)), 2)
        refused(self, NoOutput, {"name": "none"}, self.mill.memory, "none", None, None)
        for output, path in (("p", (0,)), ("p", (1,)), ("p", (1, 0)), ("a", ()), ("d", (0, 0)), ("d", (1,)),
                             ("d", (False,)), ("d", (0.0,)), ("d", [0]), ("d", None), ("d", ("0",)), ("d", (Odd(),))):
            refused(self, NoPart, {"path": path}, self.mill.memory, output, path, None)
        for side in (-1, 1, 2) + NO_NUMBERS:
            refused(self, NoSide, {"value": side}, self.mill.memory, "p", (), side)
        refused(self, NoSide, {"value": 2}, self.mill.memory, "d", (0,), 2)

    def test_what_memory_returns(self):
        told = self.mill.memory("p", (), 0)
        told.axes = 7
        self.assertEqual(self.mill.memory("p", (), 0).axes, 1)


class Twins(unittest.TestCase):
    def test_apart(self):
        chance = random.Random(521)
        for axes in (1, 2, 3):
            for _ in range(12):
                plans = some_plans(chance)
                pair = Pair(self, axes, WIDTHS, plans)
                pair.tell(some_news(chance, pair.model, 6))
                pair.close([(1,) * axes], *chance.sample(sorted(WIDTHS), 2))
                output = chance.choice(sorted(plans))
                pair.forget(pair.model.output_front(output), output)
                twin = Pair(self, axes, WIDTHS, plans)
                twin.mill = pair.mill.twin()
                twin.model.told = list(pair.model.told)
                twin.model.fronts = dict(pair.model.fronts)
                twin.model.since = dict(pair.model.since)
                twin.check()
                twin.tell(some_news(chance, twin.model, 3))
                twin.check()
                pair.check()
                pair.tell(some_news(chance, pair.model, 3))
                twin.close([(2,) * axes])
                pair.check()
                twin.check()
                twin.forget([(2,) * axes])
                twin.tell(some_news(chance, twin.model, 3, 3))
                pair.tell(some_news(chance, pair.model, 2))
                pair.check()
                twin.check()
                twin.mill.close([])
                pair.check()
                self.assertIs(type(twin.mill), Mill)

    def test_a_twin_of_a_twin(self):
        mill = Mill(1, {"a": 1}, {"d": read("distinct(a)")})
        mill.tell([("a", (0,), (5,), 2)])
        other = mill.twin().twin()
        self.assertEqual(other.tell([("a", (0,), (5,), -2)]), [("d", (0,), (5,), -1)])
        self.assertEqual(mill.tell([("a", (0,), (5,), -1)]), [])


class Bigger(unittest.TestCase):
    def test_two_hundred_changes(self):
        chance = random.Random(522)
        plans = {"p": read(PATHS), "j": read("group[0;count](join[1=0](a,join[1=0](b,a)))"),
                 "w": read("without[0=0](distinct(plus(a,b)),top[0;2](b))")}
        mill = Mill(3, {"a": 2, "b": 2}, plans)
        tables = {"a": Bag(), "b": Bag()}
        for _ in range(4):
            news = [(chance.choice("ab"), some_moment(chance, 3, 9), (chance.randrange(9), chance.randrange(9)), 1)
                    for _ in range(40)]
            mill.tell(news)
            for name, _, row, count in news:
                tables[name] = tables[name] + Bag([(row, count)])
        mill.close([(10, 10, 10)])
        model = Model(3, {"a": 2, "b": 2}, plans)
        for output, plan in model.plans.items():
            told = mill.answer(output, (9, 9, 9))
            model.told = [(name, (0, 0, 0), row, count) for name in tables for row, count in tables[name].pairs()]
            self.assertEqual(dict_of(told), model.answer(output, (0, 0, 0)))
        kept = mill.kept
        mill.forget([(10, 10, 10)])
        self.assertLess(mill.kept, kept)


class Combined(unittest.TestCase):
    def test_names_of_fronts(self):
        # Each table alone, on two axes, in all orders.
        for order in itertools.permutations("ab"):
            mill = Mill(2, {"a": 1, "b": 1}, {"j": read("join[0=0](a,b)")})
            mill.tell([("a", (0, 1), (1,), 1), ("b", (1, 0), (1,), 1)])
            told = [mill.close([(2, 2)], name) for name in order]
            self.assertEqual(told, [[], [("j", (1, 1), (1, 1), 1)]])

    def test_memory_after_a_close(self):
        mill = Mill(2, {"a": 1, "b": 1}, {"j": read("join[](a,b)")})
        mill.tell([("a", (0, 0), (7,), 1), ("a", (1, 0), (7,), 1)])
        mill.close([(1, 1)], "b")
        self.assertEqual(mill.memory("j", (), 0).changes(), [((1, 1), (7,), 2)])
        mill.close([], "b")
        self.assertEqual(mill.kept, 0)
        self.assertEqual(mill.tell([("a", (0, 0), (8,), 1)]), [])

    def test_tables_of_bags(self):
        chance = random.Random(523)
        bag = some_bag(chance, 2)
        mill = Mill(1, {"a": 2}, {"a": read("a")})
        mill.tell([("a", (0,), row, count) for row, count in bag.pairs()])
        mill.close([])
        self.assertEqual(mill.answer("a", (5,)), bag)


if __name__ == "__main__":
    unittest.main()
