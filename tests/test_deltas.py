"""Change plans: point 35."""

import random
import unittest

from deltamill.bags import Bag
from deltamill.deltas import change_plan
from deltamill.plain import answer
from deltamill.plans import tables_of, width_of
from deltamill.reader import read, show
from plan_samples import WIDTHS, fitting_plan, growing_loop, some_tables

PLAIN_NAMES = ("choose", "map", "join", "plus", "less", "distinct", "without", "group", "top", "table")

FORMS = (
    ("a", "a'"),
    ("choose[c0<2*c1-1&1=1](a)", "choose[c0<2*c1-1&1=1](a')"),
    ("map[2*c0,7](a)", "map[2*c0,7](a')"),
    ("plus(a,b)", "plus(a',b')"),
    ("less(a,b)", "less(a',b')"),
    ("join[1=0,0=0](a,b)", "plus(plus(join[1=0,0=0](a',b),join[1=0,0=0](a,b')),join[1=0,0=0](a',b'))"),
    ("distinct(a)", "less(distinct(plus(a,a')),distinct(a))"),
    ("without[0=1](a,b)", "less(without[0=1](plus(a,a'),plus(b,b')),without[0=1](a,b))"),
    ("group[1;sum:0](a)", "less(group[1;sum:0](plus(a,a')),group[1;sum:0](a))"),
    ("top[0;3](a)", "less(top[0;3](plus(a,a')),top[0;3](a))"),
    ("loop[x](a,map[c0,c3](join[1=0](x,b)))",
     "less(loop[x](plus(a,a'),map[c0,c3](join[1=0](x,plus(b,b')))),loop[x](a,map[c0,c3](join[1=0](x,b))))"),
    ("loop[x](a,loop[y](x,plus(b,y)))", "less(loop[x](plus(a,a'),loop[y](x,plus(plus(b,b'),y))),"
                                        "loop[x](a,loop[y](x,plus(b,y))))"),
    ("map[](plus(a,choose[](less(b,a))))", "map[](plus(a',choose[](less(b',a'))))"),
    ("join[](distinct(a),plus(b,a))",
     "plus(plus(join[](less(distinct(plus(a,a')),distinct(a)),plus(b,a)),join[](distinct(a),plus(b',a'))),"
     "join[](less(distinct(plus(a,a')),distinct(a)),plus(b',a')))"),
    ("distinct(join[](a,less(a,b)))",
     "less(distinct(join[](plus(a,a'),less(plus(a,a'),plus(b,b')))),distinct(join[](a,less(a,b))))"),
    ("group[;count](distinct(a))", "less(group[;count](distinct(plus(a,a'))),group[;count](distinct(a)))"),
    ("choose[c0=1](group[0;count](a))",
     "choose[c0=1](less(group[0;count](plus(a,a')),group[0;count](a)))"),
)


def pulled(tables, changes):
    """The tables with their changes, and with the changes under the names with an apostrophe."""
    after = {name: tables.get(name, Bag()) + changes.get(name, Bag()) for name in set(tables) | set(changes)}
    both = dict(tables, **{name + "'": changes[name] for name in changes})
    return after, both


class Forms(unittest.TestCase):
    def test_every_kind(self):
        for text, expected in FORMS:
            self.assertEqual(show(change_plan(plan=read(text))), expected)

    def test_a_join_of_joins(self):
        told = change_plan(read("join[](join[](a,b),c)"))
        inner = "plus(plus(join[](a',b),join[](a,b')),join[](a',b'))"
        self.assertEqual(show(told), f"plus(plus(join[]({inner},c),join[](join[](a,b),c')),join[]({inner},c'))")

    def test_names_of_eight_letters(self):
        self.assertEqual(change_plan(("distinct", ("table", "abcdefgh"))),
                         ("less", ("distinct", ("plus", ("table", "abcdefgh"), ("table", "abcdefgh'"))),
                          ("distinct", ("table", "abcdefgh"))))


class Answers(unittest.TestCase):
    def check(self, plan, tables, changes):
        after, both = pulled(tables, changes)
        told = change_plan(plan)
        self.assertEqual(answer(told, both), answer(plan, after) - answer(plan, tables), show(plan))

    def test_any_plan(self):
        chance = random.Random(351)
        for _ in range(250):
            plan, width = fitting_plan(chance, 4, kinds=PLAIN_NAMES)
            self.check(plan, some_tables(chance), some_tables(chance))
            own = {name + "'": WIDTHS[name] for name in WIDTHS}
            self.assertEqual(width_of(change_plan(plan), dict(WIDTHS, **own)), width)

    def test_loops(self):
        chance = random.Random(352)
        tried = 0
        while tried < 60:
            plan = growing_loop(chance)
            if "'" not in show(plan):
                self.check(plan, some_tables(chance), some_tables(chance))
                self.check(("join", ("table", "a"), plan, ((0, 1),)), some_tables(chance), some_tables(chance))
                tried += 1

    def test_tables_without_changes(self):
        plan = read("join[1=0](a,distinct(b))")
        tables = {"a": Bag.of((1, 2)), "b": Bag.of((2, 3))}
        self.assertEqual(answer(change_plan(plan), tables), Bag())
        self.check(plan, tables, {"b": Bag([((2, 3), -1), ((2, 4), 2)])})
        self.check(plan, {}, tables)

    def test_what_is_passed(self):
        plan = read("join[1=0](a,distinct(b))")
        change_plan(plan)
        self.assertEqual(plan, read("join[1=0](a,distinct(b))"))
        self.assertEqual(tables_of(change_plan(plan)), ["a", "a'", "b", "b'"])


if __name__ == "__main__":
    unittest.main()
