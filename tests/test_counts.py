"""Sums as bags: points 43 and 44, and the refusals of point 45."""

import random
import unittest

from deltamill.bags import Bag
from deltamill.counts import count_form, count_parting, news_paper, same_counts
from deltamill.errors import NotQuery, UnlikeWidths
from deltamill.plain import answer
from deltamill.plans import tables_of
from deltamill.reader import read
from plan_samples import some_tables
from queries_by_hand import SMALL, least_by_hand, multiply, query_of, small_sums
from samples import refused

WIDTHS = dict(SMALL, c=3)

# Sums and their count forms; x, y and z are the variables 0, 1 and 2.
FORMS = (
    ("a", "1 x,y:a(x,y)"),
    ("less(a,a)", ""),
    ("plus(a,a)", "2 x,y:a(x,y)"),
    ("less(less(d,plus(d,d)),d)", "-2 x:d(x)"),
    ("choose[1=2](a)", ""),
    ("less(map[c0](join[0=0](a,b)),map[c2](join[0=0](b,a)))", ""),
    ("less(map[c1](join[0=0](a,b)),map[c1](join[0=0](b,a)))",
     "1 x:a(y,x) b(y,z) | -1 x:a(y,z) b(y,x)"),
    ("map[](plus(d,join[](d,d)))", "1 :d(x) | 1 :d(x) d(y)"),
    ("map[](choose[c0=1](plus(d,d)))", "2 :d(1)"),
)


def form_of(text):
    parts = [part.split(" ", 1) for part in text.split(" | ") if part]
    return sorted((query_of(query, {"x": 0, "y": 1, "z": 2}), int(many)) for many, query in parts)


def form_by_hand(plan):
    made = {}
    for sign, query in multiply(plan, WIDTHS):
        made[least_by_hand(query)] = made.get(least_by_hand(query), 0) + sign
    return sorted((query, many) for query, many in made.items() if many)


def is_good_bag(bag, width):
    return bag.is_plain and all(len(row) == width for row, _ in bag.pairs())


class CountForm(unittest.TestCase):
    def test_forms(self):
        for text, expected in FORMS:
            told = count_form(plan=read(text), widths=WIDTHS)
            self.assertEqual(told, form_of(expected), text)
            self.assertTrue(all(isinstance(pair, tuple) for pair in told))

    def test_squares(self):
        plan = read("less(map[](join[](plus(d,d),d)),map[](join[](d,plus(d,d))))")
        self.assertEqual(count_form(plan, WIDTHS), [])
        # The equal atoms of a square all stay.
        self.assertEqual(count_form(read("map[](less(join[0=0](d,d),join[](d,e)))"), WIDTHS),
                         form_of("1 :d(x) d(x) | -1 :d(x) e()"))

    def test_any_sum(self):
        chance = random.Random(431)
        for plan in small_sums(chance, 250, queries=8):
            self.assertEqual(count_form(plan, SMALL), form_by_hand(plan), plan)

    def test_coefficients(self):
        plan = read("plus(d,plus(d,less(d,a)))".replace("a", "map[c0](a)"))
        self.assertEqual(count_form(plan, SMALL), form_of("3 x:d(x) | -1 x:a(x,y)"))


class SameCounts(unittest.TestCase):
    def check(self, one, two, widths=SMALL):
        told = count_parting(one, two, widths)
        self.assertIsInstance(told, tuple)
        tables, row = told
        self.assertEqual(sorted(tables), sorted(set(tables_of(one)) | set(tables_of(two))))
        for name, bag in tables.items():
            self.assertTrue(is_good_bag(bag, widths[name]))
        self.assertNotEqual(answer(one, tables)[row], answer(two, tables)[row])
        return told

    def test_pairs(self):
        for one, two, same in (
                ("a", "a", True), ("a", "plus(a,a)", False), ("a", "less(a,b)", False), ("a", "b", False),
                ("plus(a,b)", "plus(b,a)", True), ("less(a,b)", "less(b,a)", False),
                ("choose[1=2](a)", "less(b,b)", True), ("d", "choose[1=2](d)", False),
                ("map[](join[](d,d))", "map[](join[0=0](d,d))", False),
                ("map[](join[](plus(a,b),plus(a,b)))",
                 "plus(map[](join[](a,a)),plus(map[](join[](a,b)),plus(map[](join[](a,b)),map[](join[](b,b)))))", True),
                ("map[](join[](d,d))", "map[](d)", False), ("map[5](d)", "map[c0](d)", False),
                ("map[c0](join[0=0](a,a))", "map[c0](a)", False),
                # Equal over tables with the counts 0 and 1 alone, and over those with the counts 0, 1 and 2.
                ("map[c0](join[0=0](d,d))", "d", False),
                ("plus(map[c0](join[0=0](d,join[0=0](d,d))),plus(d,d))",
                 "plus(map[c0](join[0=0](d,d)),plus(map[c0](join[0=0](d,d)),map[c0](join[0=0](d,d))))", False)):
            one, two = read(one), read(two)
            self.assertIs(same_counts(p=one, q=two, widths=WIDTHS), same, (one, two))
            if same:
                self.assertIsNone(count_parting(p=one, q=two, widths=WIDTHS))
            else:
                self.check(one, two, WIDTHS)

    def test_a_table_of_one_plan_alone(self):
        tables, _ = self.check(read("d"), read("map[c0](choose[1=2](b))"))
        self.assertEqual(tables["b"], Bag())
        tables, _ = self.check(read("map[](choose[1=2](b))"), read("plus(e,map[](choose[3=4](c)))"), WIDTHS)
        self.assertEqual(sorted(tables), ["b", "c", "e"])

    def test_numbers_of_the_plans(self):
        for number in range(12):
            self.check(read("d"), read(f"plus(d,choose[c0={number}](d))"))
            self.check(read("less(d,choose[c0=1](d))"), read(f"choose[c0={number}](d)"))

    def test_any_sums(self):
        chance = random.Random(432)
        same = 0
        for wide in (0, 1):
            plans = small_sums(chance, 200, wide=wide)
            for one, two in zip(plans, plans[1:]):
                expected = form_by_hand(one) == form_by_hand(two)
                self.assertIs(same_counts(one, two, SMALL), expected)
                same += expected
                if expected:
                    tables = some_tables(chance, SMALL, many=4)
                    self.assertEqual(answer(one, tables), answer(two, tables))
                    self.assertIsNone(count_parting(one, two, SMALL))
                else:
                    self.check(one, two)
        self.assertGreater(same, 10)

    def test_powers(self):
        # For the count n of the row of e, the difference is n (n - 1) (n - 2).
        one = read("plus(join[](e,join[](e,e)),plus(e,e))")
        two = read("plus(join[](e,e),plus(join[](e,e),join[](e,e)))")
        for many in range(3):
            tables = {"e": Bag([((), many)])}
            self.assertEqual(answer(one, tables), answer(two, tables))
        self.check(one, two)


class NewsPaper(unittest.TestCase):
    def news(self, plan, tables, one, other):
        def over(*changes):
            made = dict(tables)
            for change in changes:
                for name in change:
                    made[name] = made.get(name, Bag()) + change[name]
            return answer(plan, made)

        return over(one, other) - over(one) - over(other) + over()

    def check(self, plan, first, second, widths=SMALL):
        told = news_paper(plan, widths, first, second)
        self.assertIsInstance(told, tuple)
        tables, one, other = told
        self.assertEqual(sorted(tables), tables_of(plan))
        self.assertLessEqual(set(one), set(first))
        self.assertLessEqual(set(other), set(second))
        for some in told:
            for name, bag in some.items():
                self.assertTrue(is_good_bag(bag, widths[name]))
        self.assertNotEqual(self.news(plan, tables, one, other), Bag())
        return told

    def test_example(self):
        plan = read("less(map[c0](join[0=0](a,b)),map[c1](join[0=0](b,a)))")
        self.assertEqual(count_form(plan, {"a": 1, "b": 1}), [])
        self.assertIsNone(news_paper(plan=plan, widths={"a": 1, "b": 1}, first=["a"], second=["b"]))

    def test_none(self):
        for text, first, second in (
                ("a", ["a"], ["a"]), ("plus(a,b)", ["a", "b"], ["a", "b"]), ("join[](a,b)", ["a"], ["a"]),
                ("join[](a,b)", ["b"], ["b"]), ("join[](a,b)", [], ["a", "b"]), ("join[](a,b)", ["a", "b"], []),
                ("join[](a,b)", [], []), ("join[](d,d)", [], ["d"]), ("choose[1=2](join[](d,d))", ["d"], ["d"]),
                ("less(join[](d,d),join[](d,d))", ["d"], ["d"]),
                ("less(map[](join[](d,e)),map[](join[](e,d)))", ["d"], ["e"])):
            self.assertIsNone(news_paper(read(text), WIDTHS, first, second), text)

    def test_papers(self):
        for text, first, second in (
                ("join[](a,b)", ["a"], ["b"]), ("join[](a,b)", ["b"], ["a"]), ("join[](a,b)", ["a", "b"], ["b"]),
                ("join[](d,d)", ["d"], ["d"]), ("join[0=0](d,d)", ["d"], ["d"]), ("join[](e,e)", ["e"], ["e"]),
                ("join[](e,join[](e,e))", ["e"], ["e"]), ("join[](a,join[](b,d))", ["d"], ["a", "d"]),
                ("less(d,map[c0](join[0=0](d,a)))", ["a", "d"], ["a", "d"]),
                ("choose[c0=1&c1=2](join[](d,d))", ["d"], ["d"]),
                ("plus(join[](a,b),less(join[](b,a),join[](b,a)))", ["a"], ["b"]),
                # The two summands agree over tables with one row.
                ("less(map[](join[](d,d)),map[](join[0=0](d,d)))", ["d"], ["d"])):
            self.check(read(text), first, second, WIDTHS)

    def test_counts_for_which_the_news_are_empty(self):
        # The count is n n n less 6 n n, so the news of two rows more are 6 n less 6: none if n is 1.
        cube, square = "join[](e,join[](e,e))", "join[](e,e)"
        six = f"plus(plus({square},{square}),plus(plus({square},{square}),plus({square},{square})))"
        plan = read(f"less({cube},{six})")
        one = {"e": Bag.of(())}
        self.assertEqual(self.news(plan, one, one, one), Bag())
        self.check(plan, ["e"], ["e"])

    def test_names_on_both_sides(self):
        # Only one atom has a name of both lists: one place is not two.
        self.assertIsNone(news_paper(read("join[](a,b)"), WIDTHS, ["a"], ["a"]))
        self.check(read("join[](a,b)"), ["a", "b"], ["a"])

    def test_any_sum(self):
        chance = random.Random(441)
        papers = 0
        for plan in small_sums(chance, 250):
            names = tables_of(plan)
            first, second = [[name for name in names if chance.random() < 0.6] for _ in range(2)]
            able = any(one[0] in first and other[0] in second
                       for query, _ in form_by_hand(plan) for at, one in enumerate(query[1])
                       for place, other in enumerate(query[1]) if at != place)
            if able:
                self.check(plan, chance.sample(first, len(first)), chance.sample(second, len(second)))
                papers += 1
                continue
            self.assertIsNone(news_paper(plan, SMALL, first, second))
            tables = some_tables(chance, SMALL, many=4)
            one, other = [{name: bag for name, bag in some_tables(chance, SMALL, many=3).items() if name in some}
                          for some in (first, second)]
            self.assertEqual(self.news(plan, tables, one, other), Bag())
        self.assertGreater(papers, 40)

    def test_what_is_passed_and_returned(self):
        first, widths = ["a"], {"a": 2, "b": 2}
        told = news_paper(read("join[](a,b)"), widths, first, ["b"])
        for some in told:
            some.clear()
        self.check(read("join[](a,b)"), ["a"], ["b"])
        self.assertEqual((first, widths), (["a"], {"a": 2, "b": 2}))
        count_form(read("a"), widths).clear()
        self.assertEqual(len(count_form(read("a"), widths)), 1)


class Refusals(unittest.TestCase):
    def test_no_sums(self):
        bad, worse, good = read("plus(d,distinct(d))"), read("group[;count](d)"), read("d")
        for call in (same_counts, count_parting):
            refused(self, NotQuery, {"path": (1,)}, call, bad, worse, WIDTHS)
            refused(self, NotQuery, {"path": ()}, call, worse, bad, WIDTHS)
            refused(self, NotQuery, {"path": (1,)}, call, bad, read("a"), WIDTHS)
            refused(self, NotQuery, {"path": (1,)}, call, read("a"), bad, WIDTHS)
            refused(self, NotQuery, {"path": (1,)}, call, good, bad, WIDTHS)
        refused(self, NotQuery, {"path": (1,)}, count_form, bad, WIDTHS)
        refused(self, NotQuery, {"path": (1,)}, news_paper, bad, WIDTHS, [], [])
        refused(self, NotQuery, {"path": ()}, count_form, read("map[c0+1](d)"), WIDTHS)

    def test_unlike_widths(self):
        for call in (same_counts, count_parting):
            refused(self, UnlikeWidths, {"path": (), "left": 1, "right": 2}, call, read("d"), read("a"), WIDTHS)
            refused(self, UnlikeWidths, {"path": (), "left": 1, "right": 0}, call, read("less(d,d)"),
                    read("less(e,e)"), WIDTHS)


if __name__ == "__main__":
    unittest.main()
