"""Loops: point 25."""

import itertools
import random
import unittest

from deltamill.bags import Bag
from deltamill.plain import answer
from deltamill.plans import is_monotone, tables_of
from deltamill.reader import read
from deltamill.rounds import ranks, rounds_of
from by_hand import bag_of, dict_of, dicts_of, plan_by_hand, rounds_by_hand
from plan_samples import fitting_plan, growing_loop, some_tables

PATHS = "loop[x](a,map[c0,c3](join[1=0](x,a)))"


def some_loops(seed, many, **how):
    """Pairs of a loop and tables for it."""
    chance = random.Random(seed)
    found = [(growing_loop(chance), some_tables(chance, many=8, **how)) for _ in range(many)]
    while len(found) < 2 * many:
        plan = fitting_plan(chance, 4)[0]
        if plan[0] == "loop":
            found.append((plan, some_tables(chance, **how)))
    return found


class Rounds(unittest.TestCase):
    def test_several_rounds(self):
        told = rounds_of(read(PATHS), {"a": Bag.of((1, 2), (2, 3), (3, 4))})
        self.assertEqual(told, [Bag(), Bag.of((1, 2), (2, 3), (3, 4)),
                                Bag.of((1, 2), (2, 3), (3, 4), (1, 3), (2, 4)),
                                Bag.of((1, 2), (2, 3), (3, 4), (1, 3), (2, 4), (1, 4))])

    def test_at_once(self):
        self.assertEqual(rounds_of(read(PATHS), {}), [Bag()])
        self.assertEqual(rounds_of(read(PATHS), {"a": Bag([((1, 2), -3)])}), [Bag()])
        self.assertEqual(rounds_of(read("loop[x](less(a,a),x)"), {"a": Bag.of((1,))}), [Bag()])
        self.assertEqual(ranks(read(PATHS), {}), [])

    def test_one_round(self):
        rows = Bag([((1,), 5), ((2,), 1), ((3,), -1)])
        self.assertEqual(rounds_of(read("loop[x](a,a)"), {"a": rows}), [Bag(), Bag.of((1,), (2,))])
        self.assertEqual(rounds_of(read("loop[x](a,x)"), {"a": rows}), [Bag(), Bag.of((1,), (2,))])

    def test_the_sum_of_start_and_step(self):
        # A count of the start is made up for by one of the step.
        tables = {"a": Bag([((1,), -1), ((2,), -2)]), "b": Bag([((1,), 2), ((2,), 2), ((3,), 1)])}
        self.assertEqual(rounds_of(read("loop[x](a,b)"), tables), [Bag(), Bag.of((1,), (3,))])

    def test_what_is_found_stays(self):
        # In the second round the row (1,) has the count 1 - 3, but it is there already.
        plan = read("loop[x](a,map[c0](join[0=0](x,b)))")
        tables = {"a": Bag.of((1,)), "b": Bag([((1, 1), -3)])}
        self.assertEqual(rounds_of(plan, tables), [Bag(), Bag.of((1,))])

    def test_negative_counts_in_the_step(self):
        # 1 leads to 2 twice and 2 leads back with a negative count; from 3 on the sum is positive only in round 3.
        plan = read("loop[x](a,map[c2](join[0=0](x,b)))")
        tables = {"a": Bag.of((1,)), "b": Bag([((1, 2), 1), ((1, 3), -1), ((2, 3), 2)])}
        self.assertEqual(ranks(plan, tables), [((1,), 1), ((2,), 2), ((3,), 3)])
        tables["b"] = tables["b"] + Bag([((1, 3), -1)])
        self.assertEqual(ranks(plan, tables), [((1,), 1), ((2,), 2)])

    def test_inner_loops(self):
        tables = {"a": Bag.of((1, 2), (2, 3)), "b": Bag.of((3, 4))}
        start = read("loop[x](loop[y](a,map[c0,c3](join[1=0](y,a))),map[c0,c3](join[1=0](x,b)))")
        self.assertEqual(ranks(start, tables), [((1, 2), 1), ((1, 3), 1), ((1, 4), 2), ((2, 3), 1), ((2, 4), 2)])
        step = read("loop[x](a,loop[y](map[c0,c3](join[1=0](x,b)),map[c1,c0](y)))")
        self.assertEqual(ranks(step, tables), [((1, 2), 1), ((2, 3), 1), ((2, 4), 2), ((4, 2), 2)])

    def test_any_loop(self):
        lengths = set()
        for plan, tables in some_loops(1, 250):
            told = rounds_of(plan=plan, tables=tables)
            self.assertEqual([dict_of(bag) for bag in told], rounds_by_hand(plan, dicts_of(tables)), plan)
            self.assertEqual(told[-1], answer(plan, tables))
            self.assertEqual(told[0], Bag())
            lengths.add(len(told))
        self.assertTrue({1, 2, 3, 4} <= lengths)

    def test_monotone_loops(self):
        # Over plain tables, the answer is the least set with every row of the start and of the step over it.
        tried = 0
        for plan, tables in some_loops(2, 300, counts=(1, 1, 2)):
            rows = dict_of(answer(plan, tables))
            if not is_monotone(plan) or len(rows) > 6:
                continue

            def is_closed(some):
                over = plan_by_hand(("plus", plan[2], plan[3]), dict(dicts_of(tables), **{plan[1]: some}))
                return set(over) <= set(some)

            self.assertTrue(is_closed(rows), plan)
            for many in range(len(rows)):
                for some in itertools.combinations(rows, many):
                    self.assertFalse(is_closed({row: 1 for row in some}), plan)
            tried += 1
        self.assertGreater(tried, 60)

    def test_names_of_the_dict(self):
        tables = {"a": Bag.of((1, 2), (2, 1)), "x": Bag.of((7, 7)), "zz": Bag.of(())}
        self.assertEqual(rounds_of(read(PATHS), tables), rounds_of(read(PATHS), {"a": tables["a"]}))
        self.assertEqual(ranks(read(PATHS), tables), ranks(read(PATHS), {"a": tables["a"]}))

    def test_what_is_passed_and_returned(self):
        tables = {"a": Bag.of((1, 2), (2, 3))}
        told = rounds_of(read(PATHS), tables)
        told.clear()
        self.assertEqual(tables, {"a": Bag.of((1, 2), (2, 3))})
        self.assertEqual(len(rounds_of(read(PATHS), tables)), 3)
        self.assertEqual(tables_of(read(PATHS)), ["a"])

    def test_sixty_rounds(self):
        ring = bag_of({(at, (at + 1) % 60): 1 for at in range(60)})
        told = rounds_of(read(PATHS), {"a": ring})
        self.assertEqual([len(bag) for bag in told], [60 * at for at in range(61)])


class Ranks(unittest.TestCase):
    def test_example(self):
        told = ranks(plan=read(PATHS), tables={"a": Bag.of((1, 2), (2, 3), (3, 4))})
        self.assertEqual(told, [((1, 2), 1), ((1, 3), 2), ((1, 4), 3), ((2, 3), 1), ((2, 4), 2), ((3, 4), 1)])
        self.assertTrue(all(isinstance(pair, tuple) for pair in told))

    def test_any_loop(self):
        for plan, tables in some_loops(4, 100):
            rounds = rounds_by_hand(plan, dicts_of(tables))
            expected = [(row, [row in found for found in rounds].index(True)) for row in sorted(rounds[-1])]
            self.assertEqual(ranks(plan, tables), expected)


if __name__ == "__main__":
    unittest.main()
