"""Answers from nothing: points 23 to 25."""

import random
import unittest

from deltamill.bags import Bag
from deltamill.forms import subplans
from deltamill.plain import answer, worked
from deltamill.plans import tables_of, walk_parts
from deltamill.reader import read
from by_hand import bag_of, dict_of, dicts_of, node_by_hand, plan_by_hand
from plan_samples import EVERY_KIND, WIDTHS, fitting_plan, some_bag, some_tables
from samples import GREAT

A, B = ("table", "a"), ("table", "b")


def made(text, *bags):
    """The pairs of what the node of the text makes of bags, which are given as dicts of counts."""
    return dict(worked(read(text), *[bag_of(bag) for bag in bags]).pairs())


class Worked(unittest.TestCase):
    def test_choose(self):
        rows = {(1, 2): 3, (2, 2): -4, (3, 1): 1}
        self.assertEqual(made("choose[](a)", rows), rows)
        self.assertEqual(made("choose[c0=c1](a)", rows), {(2, 2): -4})
        self.assertEqual(made("choose[c0<=c1&c0!=2](a)", rows), {(1, 2): 3})
        self.assertEqual(made("choose[1<0](a)", rows), {})
        self.assertEqual(made("choose[2*c0-c1<5](a)", rows), {(1, 2): 3, (2, 2): -4})

    def test_map(self):
        rows = {(1, 2): 3, (2, 2): -4, (3, 1): 1}
        self.assertEqual(made("map[c1](a)", rows), {(2,): -1, (1,): 1})
        self.assertEqual(made("map[](a)", {(1, 2): 3, (2, 2): -3}), {})
        self.assertEqual(made("map[](a)", rows), {})
        self.assertEqual(made("map[](a)", {(1, 2): 3}), {(): 3})
        self.assertEqual(made("map[c1,7,c0-c1](a)", {(1, 2): 3}), {(2, 7, -1): 3})
        self.assertEqual(made("map[4](a)", {(): -2}), {(4,): -2})

    def test_join(self):
        left, right = {(1, 2): 3, (2, 2): -4, (3, 1): 1}, {(2,): -2, (5,): 7, (1,): 1}
        self.assertEqual(made("join[1=0](a,b)", left, right), {(1, 2, 2): -6, (2, 2, 2): 8, (3, 1, 1): 1})
        self.assertEqual(made("join[](a,b)", {(1,): 2}, {(): -1, }), {(1,): -2})
        self.assertEqual(made("join[](a,b)", {(1,): 2, (2,): 1}, {(3,): -1, (4,): 5}),
                         {(1, 3): -2, (1, 4): 10, (2, 3): -1, (2, 4): 5})
        self.assertEqual(made("join[0=0,1=0](a,b)", left, right), {(2, 2, 2): 8})
        self.assertEqual(made("join[1=0](a,b)", left, {}), {})
        self.assertEqual(made("join[](a,b)", {}, right), {})

    def test_plus_and_less(self):
        left, right = {(1,): 3, (2,): -4, (3,): 1}, {(2,): 4, (3,): 1, (5,): -7}
        self.assertEqual(made("plus(a,b)", left, right), {(1,): 3, (3,): 2, (5,): -7})
        self.assertEqual(made("less(a,b)", left, right), {(1,): 3, (2,): -8, (5,): 7})
        self.assertEqual(made("less(a,b)", left, left), {})

    def test_distinct(self):
        self.assertEqual(made("distinct(a)", {(1,): 3, (2,): -4, (3,): 1, (): GREAT}), {(1,): 1, (3,): 1, (): 1})
        self.assertEqual(made("distinct(a)", {(2,): -4}), {})

    def test_without(self):
        left, right = {(1, 2): 3, (2, 2): -4, (3, 1): -1}, {(2, 5): -1, (1, 5): 2}
        self.assertEqual(made("without[1=0](a,b)", left, right), {(1, 2): 3, (2, 2): -4})
        self.assertEqual(made("without[0=0](a,b)", left, right), {(2, 2): -4, (3, 1): -1})
        self.assertEqual(made("without[](a,b)", left, right), {})
        self.assertEqual(made("without[](a,b)", left, {(2, 5): -1}), left)
        self.assertEqual(made("without[](a,b)", left, {}), left)
        self.assertEqual(made("without[0=0,1=0](a,b)", left, {(1, 5): 2}), left)
        self.assertEqual(made("without[0=0,1=1](a,b)", left, {(2, 2): 1, (1, 1): 1}), {(1, 2): 3, (3, 1): -1})

    def test_group_count_and_sum(self):
        rows = {(1, 2): 3, (1, 5): -3, (2, 2): -4, (3, 7): 1, (3, 8): 1}
        self.assertEqual(made("group[0;count](a)", rows), {(1, 0): 1, (2, -4): 1, (3, 2): 1})
        self.assertEqual(made("group[0;sum:1](a)", rows), {(1, -9): 1, (2, -8): 1, (3, 15): 1})
        self.assertEqual(made("group[;count](a)", rows), {(-2,): 1})
        self.assertEqual(made("group[;sum:0](a)", {(5,): 1, (1,): -5}), {(0,): 1})
        self.assertEqual(made("group[;count](a)", {}), {})
        self.assertEqual(made("group[;sum:1](a)", {}), {})
        self.assertEqual(made("group[1,1,0;count](a)", {(3, 7): 2}), {(7, 7, 3, 2): 1})
        self.assertEqual(made("group[;count](a)", {(): -GREAT}), {(-GREAT,): 1})
        self.assertEqual(made("group[0;sum:0](a)", {(GREAT,): GREAT}), {(GREAT, GREAT * GREAT): 1})

    def test_group_least_and_greatest(self):
        rows = {(1, 2): 3, (1, 5): -3, (1, 1): -1, (1, 4): 1, (2, 2): -4, (3, 7): 1, (3, 8): 1}
        self.assertEqual(made("group[0;least:1](a)", rows), {(1, 2): 1, (3, 7): 1})
        self.assertEqual(made("group[0;greatest:1](a)", rows), {(1, 4): 1, (3, 8): 1})
        self.assertEqual(made("group[;least:0](a)", rows), {(1,): 1})
        self.assertEqual(made("group[;greatest:1](a)", rows), {(8,): 1})
        for word in ("least", "greatest"):
            self.assertEqual(made(f"group[;{word}:0](a)", {(1,): -3}), {})
            self.assertEqual(made(f"group[;{word}:0](a)", {}), {})
            self.assertEqual(made(f"group[0,0;{word}:0](a)", {(-1,): 3}), {(-1, -1, -1): 1})

    def test_top(self):
        rows = {(1, 2): 3, (1, 5): 1, (0, 9): -3, (2, 2): -4, (3, 7): 2, (3, 8): 1}
        self.assertEqual(made("top[;1](a)", rows), {(1, 2): 1})
        self.assertEqual(made("top[;3](a)", rows), {(1, 2): 3})
        self.assertEqual(made("top[;5](a)", rows), {(1, 2): 3, (1, 5): 1, (3, 7): 1})
        self.assertEqual(made("top[;7](a)", rows), {(1, 2): 3, (1, 5): 1, (3, 7): 2, (3, 8): 1})
        self.assertEqual(made("top[;100](a)", rows), {(1, 2): 3, (1, 5): 1, (3, 7): 2, (3, 8): 1})
        self.assertEqual(made("top[0;2](a)", rows), {(1, 2): 2, (3, 7): 2})
        self.assertEqual(made("top[1,0;1](a)", rows), {(1, 2): 1, (1, 5): 1, (3, 7): 1, (3, 8): 1})
        self.assertEqual(made("top[;1](a)", {(1,): -1}), {})
        self.assertEqual(made("top[;1](a)", {}), {})
        self.assertEqual(made("top[;2](a)", {(): 5}), {(): 2})

    def test_top_with_great_numbers(self):
        rows = {(1,): GREAT, (2,): 3 * GREAT, (3,): 1}
        self.assertEqual(made(f"top[;{GREAT}](a)", rows), {(1,): GREAT})
        self.assertEqual(made(f"top[;{2 * GREAT}](a)", rows), {(1,): GREAT, (2,): GREAT})
        self.assertEqual(made(f"top[;{9 * GREAT}](a)", rows), rows)
        self.assertEqual(made("top[0;5](a)", rows), {(1,): 5, (2,): 5, (3,): 1})

    def test_the_sub_plans_are_not_looked_at(self):
        bags = [Bag([((1, 2), 2), ((2, 1), -1)]), Bag([((2, 2), 3)])]
        for plan in EVERY_KIND:
            if plan[0] not in ("table", "loop"):
                given = bags[:len(subplans(plan))]
                expected = worked(plan, *given)
                for odd in (None, "a", 7, (), ("table",), ("loop", "x", A, A)):
                    node = tuple(odd if place in subplans(plan) else place for place in plan)
                    self.assertEqual(worked(node, *given), expected)

    def test_any_node(self):
        chance = random.Random(1)
        for _ in range(1500):
            node = fitting_plan(chance, 2)[0]
            if node[0] not in ("table", "loop"):
                bags = [some_bag(chance, WIDTHS[sub[1]] if sub[0] == "table" else len(sub[2]), 10)
                        for sub in subplans(node)]
                told = worked(node, *bags)
                self.assertIsInstance(told, Bag)
                self.assertEqual(dict_of(told), node_by_hand(node, [dict_of(bag) for bag in bags]), node)

    def test_the_bags_stay(self):
        chance = random.Random(2)
        for plan in EVERY_KIND:
            if plan[0] not in ("table", "loop"):
                bags = [some_bag(chance, 2, 8) for _ in subplans(plan)]
                before = [bag.pairs() for bag in bags]
                worked(plan, *bags)
                self.assertEqual([bag.pairs() for bag in bags], before)

    def test_one_bag_for_each_sub_plan(self):
        self.assertEqual(worked(("distinct", A), Bag.of((1,), (1,))), Bag.of((1,)))
        self.assertEqual(worked(("plus", A, B), Bag.of((1,)), Bag.of((1,))), Bag([((1,), 2)]))


class Answer(unittest.TestCase):
    def test_examples(self):
        edges = Bag.of((1, 2), (2, 3), (3, 1))
        plan = read("loop[path](edge,map[c0,c3](join[1=0](path,edge)))")
        self.assertEqual(len(answer(plan, {"edge": edges})), 9)
        self.assertEqual(answer(read("group[;sum:1](edge)"), {"edge": edges}).pairs(), [((6,), 1)])

    def test_any_plan(self):
        chance = random.Random(3)
        kinds = set()
        for _ in range(1500):
            plan = fitting_plan(chance, chance.randint(1, 5))[0]
            tables = some_tables(chance)
            told = answer(plan, tables)
            self.assertIsInstance(told, Bag)
            self.assertEqual(dict_of(told), plan_by_hand(plan, dicts_of(tables)), plan)
            kinds |= {node[0] for _, node in walk_parts(plan)}
        self.assertEqual(len(kinds), 11)

    def test_plain_tables(self):
        chance = random.Random(4)
        for _ in range(300):
            plan = fitting_plan(chance, 4)[0]
            tables = some_tables(chance, counts=(1, 1, 2))
            self.assertEqual(dict_of(answer(plan, tables)), plan_by_hand(plan, dicts_of(tables)), plan)

    def test_by_name(self):
        self.assertEqual(answer(plan=A, tables={"a": Bag.of((1,))}), Bag.of((1,)))

    def test_tables_that_are_missing(self):
        rows = Bag([((1, 2), 2), ((2, 2), -1)])
        self.assertEqual(answer(A, {}), Bag())
        self.assertEqual(answer(read("plus(a,b)"), {"b": rows}), rows)
        self.assertEqual(answer(read("less(a,b)"), {"b": rows}), -rows)
        self.assertEqual(answer(read("join[](a,b)"), {"b": rows}), Bag())
        self.assertEqual(answer(read("without[](a,b)"), {"a": rows}), rows)
        self.assertEqual(answer(read("group[;count](a)"), {}), Bag())
        self.assertEqual(answer(read("loop[x](a,b)"), {}), Bag())
        self.assertEqual(answer(read("loop[x](a,b)"), {"b": rows}), Bag.of((1, 2)))

    def test_other_names_mean_nothing(self):
        chance = random.Random(5)
        for text in ("loop[x](a,map[c1,c0](x))", "loop[x](a,loop[y](x,map[c1,c0](y)))", "plus(a,loop[x](b,x))",
                     "loop[x](loop[y](a,map[c1,c0](y)),distinct(x))"):
            plan, tables = read(text), some_tables(chance)
            more = dict(tables, x=Bag.of((8, 8)), y=Bag.of((9, 9)), zz=Bag.of((1, 2, 3)))
            more["a'"] = Bag.of((4, 4))
            self.assertEqual(answer(plan, more), answer(plan, tables))
        self.assertEqual(answer(A, {"a": Bag.of((1,)), "b": None}), Bag.of((1,)))

    def test_what_is_passed_stays(self):
        chance = random.Random(6)
        for _ in range(200):
            plan, tables = fitting_plan(chance, 4)[0], some_tables(chance)
            before = {name: bag.pairs() for name, bag in tables.items()}
            answer(plan, tables)
            self.assertEqual({name: bag.pairs() for name, bag in tables.items()}, before)

    def test_a_bag_of_its_own(self):
        rows = Bag.of((1,))
        told = answer(A, {"a": rows})
        self.assertIsNot(told, rows)
        self.assertIsNot(answer(A, {"a": rows}), told)

    def test_great_counts(self):
        rows = Bag([((GREAT,), GREAT), ((-GREAT,), -GREAT)])
        self.assertEqual(answer(read("map[](join[0=0](a,a))"), {"a": rows}).pairs(), [((), 2 * GREAT * GREAT)])
        self.assertEqual(answer(read("group[;sum:0](a)"), {"a": rows}).pairs(), [((2 * GREAT * GREAT,), 1)])

    def test_as_many_rows_as_callers_use(self):
        chance = random.Random(7)
        rows = {(at, at + 1): 1 for at in range(60)}
        plan = read("loop[x](a,map[c0,c3](join[1=0](x,a)))")
        self.assertEqual(len(answer(plan, {"a": bag_of(rows)})), 60 * 61 // 2)
        wide = {tuple(chance.randrange(9) for _ in range(12)): 1 for _ in range(200)}
        told = answer(read("group[;count](join[](a,a))"), {"a": bag_of(wide)})
        self.assertEqual(told.pairs(), [((len(wide) ** 2,), 1)])

    def test_parts_that_do_not_change_in_a_loop(self):
        # 200 times 200 rows, which must not be joined anew in each of the 60 rounds.
        tables = {"a": bag_of({(at, at + 1): 1 for at in range(59)}), "b": bag_of({(at,): 1 for at in range(200)})}
        plan = read("loop[x](a,plus(map[c0,c3](join[1=0](x,a)),"
                    "map[c0,c1](choose[c0<0](join[](b,join[](b,choose[c0=1](b)))))))")
        self.assertEqual(len(answer(plan, tables)), 59 * 60 // 2)
        self.assertEqual(tables_of(plan), ["a", "b"])


if __name__ == "__main__":
    unittest.main()
