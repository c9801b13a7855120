"""What machines hand on: points 26, 27 and 29."""

import itertools
import random
import unittest

from deltamill.base import Machine
from deltamill.fronts import Front
from deltamill.histories import History
from deltamill.machines import machine_of
from deltamill.plain import answer, worked
from deltamill.plans import tables_of
from deltamill.reader import read
from deltamill.rounds import rounds_of
from plan_samples import fitting_pairs, fitting_term, fitting_tests, growing_loop
from samples import GREAT
from test_base import some_front, some_news

A, B = ("table", "a"), ("table", "b")
SIZES = {1: 5, 2: 4, 3: 3}

PATHS = "loop[x](a,map[c0,c3](join[1=0](x,a)))"
LOOPS = (
    PATHS, "loop[x](a,map[c0,c3](join[1=0](x,b)))", "loop[x](a,map[c0,c3](join[1=0](x,x)))", "loop[x](a,b)",
    "loop[x](a,x)", "loop[x](a,without[0=0](map[c1,c0](x),b))", "loop[x](a,plus(map[c1,c0](x),less(b,c)))",
    "loop[x](less(a,b),plus(map[c0,c3](join[1=0](x,c)),group[0;count](c)))",
    "loop[x](a,loop[y](map[c0,c3](join[1=0](x,b)),map[c1,c0](y)))",
    "loop[x](loop[y](a,map[c0,c3](join[1=0](y,b))),plus(map[c1,c0](x),c))",
    "loop[x](a,loop[y](x,map[c0,c3](join[1=0](y,x))))",
    "loop[x](top[0;1](a),plus(loop[y](b,map[c0,c3](join[1=0](y,a))),map[c1,c0](x)))")


def some_node(chance):
    """A part of tables of two columns that is not a loop."""
    keys = tuple(chance.randrange(2) for _ in range(chance.choice((0, 1, 1, 2))))
    sort = chance.choice((("count",), ("sum", 1), ("least", 1), ("greatest", 0)))
    return chance.choice((
        ("choose", A, fitting_tests(chance, 2)), ("map", A, tuple(fitting_term(chance, 2) for _ in keys)),
        ("join", A, B, fitting_pairs(chance, 2, 2)), ("plus", A, B), ("less", A, B), ("distinct", A),
        ("without", A, B, fitting_pairs(chance, 2, 2)), ("without", A, B, fitting_pairs(chance, 2, 2)),
        ("group", A, keys, sort), ("group", A, keys, sort), ("top", A, keys, chance.choice((1, 2, 4)))))


def answer_of(node, bags):
    """The answer of the part over the bags of its sides."""
    if node[0] == "loop":
        return answer(node, dict(zip(tables_of(node), bags)))
    return worked(node, *bags)


def history_of(node, inputs):
    """The only history with the right answers, for inputs with moments in a small grid."""
    axes = inputs[0].axes
    grid = itertools.product(range(SIZES[axes]), repeat=axes)
    return History.of_answers(axes, [(moment, answer_of(node, [told.at(moment) for told in inputs]))
                                     for moment in grid])


class Checked:
    """A machine beside a second one whose sides are never closed; each take is checked."""

    def __init__(self, test, node, axes):
        self.test, self.node = test, node
        self.machine, self.open = machine_of(node, axes), machine_of(node, axes)
        self.inputs = [History(axes) for _ in range(self.machine.sides)]
        self.told = History(axes)

    def take(self, side, news):
        told = self.machine.take(side, news)
        self.test.assertEqual(told, self.open.take(side, news), self.node)
        self.told = self.told + told
        self.inputs[side] = self.inputs[side] + news
        self.test.assertEqual(self.told, history_of(self.node, self.inputs), self.node)

    def run(self, chance, many):
        for _ in range(many):
            side = chance.randrange(self.machine.sides)
            front = self.machine.front_of(side)
            news = some_news(chance, front, chance.choice((0, 1, 2, 4)), SIZES[front.axes])
            back = [change for change in self.inputs[side].changes() if change[0] in front]
            if back and chance.random() < 0.4:
                moment, row, count = chance.choice(back)
                news = news + History(front.axes, [(moment, row, -count)])
            self.take(side, news)
            if chance.random() < 0.4:
                side = chance.randrange(self.machine.sides)
                self.machine.close(side, some_front(chance, self.machine.front_of(side)))


class Answers(unittest.TestCase):
    def test_example(self):
        machine = machine_of(("distinct", A), 2)
        first = machine.take(0, History(2, [((1, 0), (7,), 2)]))
        second = machine.take(0, History(2, [((0, 1), (7,), 1)]))
        self.assertEqual((first.changes(), second.changes(), machine.kept),
                         ([((1, 0), (7,), 1)], [((0, 1), (7,), 1), ((1, 1), (7,), -1)], 2))

    def test_every_kind(self):
        chance = random.Random(1)
        for axes in (1, 2, 3):
            for _ in range(150 if axes < 3 else 60):
                Checked(self, some_node(chance), axes).run(chance, 5)

    def test_loops(self):
        chance = random.Random(2)
        for axes in (1, 2, 3):
            for _ in range(4 if axes < 3 else 1):
                for text in LOOPS:
                    Checked(self, read(text), axes).run(chance, 4)

    def test_any_loop(self):
        chance = random.Random(3)
        for axes in (1, 2, 2, 3):
            for _ in range(30 if axes < 3 else 10):
                Checked(self, growing_loop(chance), axes).run(chance, 4)

    def test_beside_before_and_behind(self):
        for text in ("distinct(a)", "group[;count](a)", "group[0;least:1](a)", "top[;2](a)", PATHS,
                     "choose[c0<c1](a)", "map[c1](a)"):
            for moment in ((1, 1), (0, 2), (2, 0), (0, 0), (1, 0), (0, 1), (2, 2)):
                for count in (-2, -1, 1, 3):
                    checked = Checked(self, read(text), 2)
                    checked.take(0, History(2, [((1, 1), (0, 1), 1), ((1, 1), (1, 2), 1), ((2, 1), (0, 2), -1)]))
                    checked.take(0, History(2, [(moment, (0, 1), count)]))
                    checked.take(0, History(2, [(moment, (1, 0), count)]))
                    checked.take(0, History(2, [(moment, (0, 1), -count)]))

    def test_counts_that_pass_zero(self):
        for text in ("distinct(a)", "group[;count](a)", "group[0;sum:0](a)", "group[;greatest:0](a)", "top[0;1](a)"):
            checked = Checked(self, read(text), 1)
            for moment, count in ((2, 1), (1, -1), (0, 1), (3, -2), (1, 2), (0, -1), (2, -1), (3, 1), (4, 5)):
                checked.take(0, History(1, [((moment,), (0, 1), count)]))

    def test_whatever_the_order_and_the_pieces(self):
        chance = random.Random(4)
        nodes = [some_node(chance) for _ in range(30)] + [read(text) for text in LOOPS]
        for node in nodes:
            sides = machine_of(node, 2).sides
            inputs = [some_news(chance, Front.everything(2), 5) for _ in range(sides)]
            pieces = [(side, change) for side, told in enumerate(inputs) for change in told.changes()]
            expected = history_of(node, inputs)
            for _ in range(4):
                chance.shuffle(pieces)
                machine, total = machine_of(node, 2), History(2)
                for side, change in pieces:
                    total = total + machine.take(side, History(2, [change]))
                self.assertEqual(total, expected, node)
            machine, total = machine_of(node, 2), History(2)
            for side, told in enumerate(inputs):
                total = total + machine.take(side, told)
            self.assertEqual(total, expected, node)

    def test_news_that_take_everything_back(self):
        chance = random.Random(5)
        for node in [some_node(chance) for _ in range(30)] + [read(text) for text in LOOPS]:
            machine, total = machine_of(node, 2), History(2)
            inputs = [some_news(chance, Front.everything(2), 5) for _ in range(machine.sides)]
            for side, told in enumerate(inputs):
                total = total + machine.take(side, told)
            for side, told in enumerate(inputs):
                total = total + machine.take(side, -told)
            self.assertEqual((total, machine.kept), (History(2), 0), node)

    def test_no_news(self):
        for text in LOOPS + ("distinct(a)", "join[](a,b)", "plus(a,b)", "group[;count](a)", "map[](a)"):
            machine = machine_of(read(text), 3)
            for side in range(machine.sides):
                self.assertEqual(machine.take(side, History(3)), History(3))

    def test_the_sides_of_a_loop(self):
        machine = machine_of(read("loop[x](plus(c,a),plus(x,b))"), 1)
        for side, name in enumerate(("a", "b", "c")):
            told = machine.take(side, History(1, [((0,), (side,), 2)]))
            self.assertEqual(told.changes(), [((0,), (side,), 1)], name)

    def test_the_sub_plans_of_other_parts_are_not_looked_at(self):
        node = ("distinct", read(PATHS))
        self.assertEqual(machine_of(node, 1).sides, 1)
        node = ("join", ("plus", A, B), ("less", A, B), ((0, 0),))
        machine = machine_of(node, 1)
        machine.take(1, History(1, [((1,), (4, 5), 2)]))
        self.assertEqual(machine.take(0, History(1, [((0,), (4, 6), 3)])).changes(), [((1,), (4, 6, 4, 5), 6)])

    def test_great_numbers(self):
        machine = machine_of(read("join[0=0](a,b)"), 3)
        machine.take(0, History(3, [((GREAT, 0, 0), (GREAT,), GREAT)]))
        told = machine.take(1, History(3, [((0, GREAT, 1), (GREAT,), -GREAT)]))
        self.assertEqual(told.changes(), [((GREAT, GREAT, 1), (GREAT, GREAT), -GREAT * GREAT)])
        machine = machine_of(read("top[;5](a)"), 2)
        machine.take(0, History(2, [((GREAT, 0), (1,), GREAT)]))
        told = machine.take(0, History(2, [((0, GREAT), (0,), 3)]))
        self.assertEqual(told.changes(), [((0, GREAT), (0,), 3), ((GREAT, GREAT), (1,), -3)])


class Closed(unittest.TestCase):
    def test_closing_changes_nothing_of_what_take_returns(self):
        # Moments far apart, so that folding moves changes.
        chance = random.Random(6)
        nodes = [some_node(chance) for _ in range(60)] + [read(text) for text in LOOPS]
        for node in nodes:
            axes = chance.choice((2, 2, 3))
            closed, never = machine_of(node, axes), machine_of(node, axes)
            for _ in range(6):
                side = chance.randrange(closed.sides)
                news = some_news(chance, closed.front_of(side), 6, 9)
                self.assertEqual(closed.take(side, news), never.take(side, news), node)
                side = chance.randrange(closed.sides)
                closed.close(side, some_front(chance, closed.front_of(side)))

    def test_a_side_that_is_closed_for_good(self):
        for text in LOOPS + ("join[0=0](a,b)", "without[0=0](a,b)"):
            chance = random.Random(7)
            checked = Checked(self, read(text), 2)
            for side in range(checked.machine.sides):
                checked.take(side, some_news(chance, Front.everything(2), 4, 4))
                checked.machine.close(side, Front.nothing(2))
            self.assertEqual(checked.machine.kept, 0)


class Rounds(unittest.TestCase):
    def check(self, node, machine, inputs):
        """The rounds of the machine are those of the inputs, at open moments alone."""
        front = Front.nothing(machine.axes)
        for side in range(machine.sides):
            front = front | machine.front_of(side)
        told = machine.rounds()
        self.assertEqual(told.axes, machine.axes + 1)
        self.assertTrue(all(moment[:-1] in front for moment in told.moments()))
        for moment in itertools.product(range(SIZES[machine.axes] + 1), repeat=machine.axes):
            if moment in front:
                bags = rounds_of(node, dict(zip(tables_of(node), [given.at(moment) for given in inputs])))
                for number in list(range(len(bags) + 2)) + [GREAT]:
                    self.assertEqual(told.at(moment + (number,)), bags[min(number, len(bags) - 1)], node)

    def test_only_loops_have_them(self):
        self.assertTrue(callable(machine_of(read(PATHS), 1).rounds))
        for text in ("choose[](a)", "map[](a)", "join[](a,b)", "plus(a,b)", "less(a,b)", "distinct(a)",
                     "without[](a,b)", "group[;count](a)", "top[;1](a)"):
            self.assertFalse(hasattr(machine_of(read(text), 1), "rounds"))
        self.assertFalse(hasattr(Machine, "rounds"))

    def test_example(self):
        machine = machine_of(read(PATHS), 1)
        machine.take(0, History(1, [((0,), (1, 2), 1), ((0,), (2, 3), 1), ((5,), (1, 3), 1)]))
        self.assertEqual(machine.rounds().changes(), [
            ((0, 1), (1, 2), 1), ((0, 1), (2, 3), 1), ((0, 2), (1, 3), 1),
            ((5, 1), (1, 3), 1), ((5, 2), (1, 3), -1)])
        machine.close(0, Front(1, [(5,)]))
        self.assertEqual(machine.rounds().changes(), [((5, 1), (1, 2), 1), ((5, 1), (1, 3), 1), ((5, 1), (2, 3), 1)])
        machine.close(0, Front.nothing(1))
        self.assertEqual(machine.rounds(), History(2))

    def test_at_first(self):
        for axes in (1, 2, 3):
            self.assertEqual(machine_of(read(PATHS), axes).rounds(), History(axes + 1))

    def test_before_and_after_sides_are_closed(self):
        chance = random.Random(8)
        for axes in (1, 2, 3):
            for node in [read(text) for text in LOOPS] + [growing_loop(chance) for _ in range(25 if axes < 3 else 5)]:
                machine = machine_of(node, axes)
                inputs = [some_news(chance, Front.everything(axes), 4, SIZES[axes]) for _ in range(machine.sides)]
                for side, news in enumerate(inputs):
                    machine.take(side, news)
                self.check(node, machine, inputs)
                for side in range(machine.sides):
                    machine.close(side, some_front(chance, machine.front_of(side)))
                    self.check(node, machine, inputs)
                for side in range(machine.sides):
                    machine.close(side, Front.nothing(axes))
                self.assertEqual(machine.rounds(), History(axes + 1))

    def test_asking_changes_nothing(self):
        machine = machine_of(read(PATHS), 2)
        machine.take(0, History(2, [((0, 1), (1, 2), 1), ((1, 0), (2, 3), 1)]))
        first = machine.rounds()
        first.changes().clear()
        self.assertEqual(machine.rounds(), first)
        self.assertEqual(machine.memory(0).changes(), [((0, 1), (1, 2), 1), ((1, 0), (2, 3), 1)])


class Sizes(unittest.TestCase):
    def test_many_changes(self):
        chance = random.Random(9)
        for axes in (1, 2):
            for text in ("distinct(a)", "group[0;count](a)", "group[;sum:1](a)", "top[;5](a)", PATHS):
                news = History(axes, [(tuple(chance.randrange(200 // axes ** 3) for _ in range(axes)),
                                       (chance.randrange(150), chance.randrange(150)), 1) for _ in range(200)])
                machine = machine_of(read(text), axes)
                told = machine.take(0, news)
                for moment in chance.sample(news.moments(), 5):
                    self.assertEqual(told.at(moment), answer_of(read(text), [news.at(moment)]))

    def test_one_after_the_other(self):
        machine, total = machine_of(read(PATHS), 1), History(1)
        for at in range(20):
            total = total + machine.take(0, History(1, [((at,), (at, at + 1), 1)]))
            machine.close(0, Front(1, [(at + 1,)]))
        self.assertEqual(len(total.at((20,))), 20 * 21 // 2)
        self.assertEqual(machine.kept, 20)


if __name__ == "__main__":
    unittest.main()
