"""Sums, unions and queries: points 36 to 39."""

import random
import unittest

from deltamill.errors import NotQuery
from deltamill.plain import answer
from deltamill.plans import walk_parts, width_of
from deltamill.queries import core, least_form, mapping_of, members, plan_of, restricted, summands
from deltamill.reader import read
from by_hand import bag_of, dict_of, dicts_of, plan_by_hand
from plan_samples import some_tables
from queries_by_hand import (SMALL, core_by_hand, least_by_hand, maps_by_hand, multiply, query_by_hand, query_of,
                             shuffled, small_sums, some_query, some_sum, terms_in, var, variables_in)
from samples import GREAT, refused

WIDTHS = dict(SMALL, c=3)

# Plans and what they multiply out into.
SUMS = (
    ("a", "+ x,y:a(x,y)"),
    ("e", "+ :e()"),
    ("choose[](a)", "+ x,y:a(x,y)"),
    ("choose[c0=c1](a)", "+ x,x:a(x,x)"),
    ("choose[c0=5](a)", "+ 5,x:a(5,x)"),
    ("choose[-5=c0](a)", "+ -5,x:a(-5,x)"),
    ("choose[c0=c1&c1=5](a)", "+ 5,5:a(5,5)"),
    ("choose[c1=5&c0=c1](a)", "+ 5,5:a(5,5)"),
    ("choose[c1=5](choose[c0=c1](a))", "+ 5,5:a(5,5)"),
    ("choose[c0=c1](choose[c1=5](a))", "+ 5,5:a(5,5)"),
    ("choose[c0=4&c0=5](a)", ""),
    ("choose[c0=4](choose[c0=5](a))", ""),
    ("choose[c0=4&c1=5&c0=c1](a)", ""),
    ("choose[c0=c1&c1=c2&c0=7&c2=8](c)", ""),
    ("choose[c0=c2&c1=c2](c)", "+ x,x,x:c(x,x,x)"),
    ("choose[c1=c0&c2=c1&c0=c2](c)", "+ x,x,x:c(x,x,x)"),
    ("choose[c0=4&c0=4](a)", "+ 4,x:a(4,x)"),
    ("choose[3=3](d)", "+ x:d(x)"),
    ("choose[3=4](d)", ""),
    ("map[](a)", "+ :a(x,y)"),
    ("map[c1,c1,7](a)", "+ y,y,7:a(x,y)"),
    ("choose[c2=7](map[c1,c1,7](a))", "+ y,y,7:a(x,y)"),
    ("choose[c2=8](map[c1,c1,7](a))", ""),
    ("choose[c2=c0](map[c1,c1,7](a))", "+ 7,7,7:a(x,7)"),
    ("plus(a,map[c1,c0](b))", "+ x,y:a(x,y) | + y,x:b(x,y)"),
    ("plus(a,a)", "+ x,y:a(x,y) | + x,y:a(x,y)"),
    ("less(a,less(b,a))", "+ x,y:a(x,y) | - x,y:b(x,y) | + x,y:a(x,y)"),
    ("less(less(a,b),a)", "+ x,y:a(x,y) | - x,y:b(x,y) | - x,y:a(x,y)"),
    ("join[](d,d)", "+ x,y:d(x) d(y)"),
    ("join[](e,d)", "+ x:e() d(x)"),
    ("join[1=0](a,a)", "+ x,y,y,z:a(x,y) a(y,z)"),
    ("join[0=0,1=0](a,a)", "+ x,x,x,z:a(x,x) a(x,z)"),
    ("join[0=0](choose[c0=5](a),d)", "+ 5,x,5:a(5,x) d(5)"),
    ("join[0=0](d,choose[c0=5](a))", "+ 5,5,x:d(5) a(5,x)"),
    ("join[0=0](choose[c0=4](a),choose[c0=5](a))", ""),
    ("join[1=1](map[c1,c0](a),b)", "+ y,x,z,x:a(x,y) b(z,x)"),
    ("join[](plus(d,map[c0](a)),less(d,map[c1](a)))",
     "+ x,y:d(x) d(y) | - x,z:d(x) a(y,z) | + x,z:a(x,y) d(z) | - x,w:a(x,y) a(z,w)"),
    ("join[](less(d,d),less(d,d))", "+ x,y:d(x) d(y) | - x,y:d(x) d(y) | - x,y:d(x) d(y) | + x,y:d(x) d(y)"),
    ("plus(choose[c0=1](map[2](a)),d)", "+ x:d(x)"),
)

UNIONS = (
    ("distinct(plus(d,distinct(map[c1](a))))", "x:d(x) | y:a(x,y)"),
    ("join[0=0](distinct(d),distinct(distinct(a)))", "x,x,y:d(x) a(x,y)"),
    ("choose[c0=2&c0=3](distinct(a))", ""),
    ("distinct(choose[c0=c1](distinct(a)))", "x,x:a(x,x)"),
)

# Plans with the path of the first node that a sum cannot have, and a union.
NO_QUERIES = (
    ("distinct(less(a,a))", (), (0,)),
    ("less(a,distinct(a))", (1,), ()),
    ("plus(less(a,a),distinct(a))", (1,), (0,)),
    ("without[](a,a)", (), ()),
    ("group[;count](a)", (), ()),
    ("plus(a,top[;1](a))", (1,), (1,)),
    ("join[](a,loop[x](a,x))", (1,), (1,)),
    ("map[c0+c1](top[;1](a))", (), ()),
    ("map[c0](top[;1](a))", (0,), (0,)),
    ("choose[c0!=1](a)", (), ()),
    ("choose[c0=1&c0<1](a)", (), ()),
    ("choose[c0<=1](a)", (), ()),
    ("choose[-c0=1](a)", (), ()),
    ("choose[c0=c0+c1](a)", (), ()),
    ("choose[c0=c1+1](a)", (), ()),
    ("choose[2*c0=0](a)", (), ()),
    ("map[c0,c0-1](a)", (), ()),
    ("map[-c0](a)", (), ()),
    ("join[](choose[c0=1](choose[c0!=1](a)),group[;count](a))", (0, 0), (0, 0)),
    ("plus(join[](a,map[2*c0](a)),choose[c0<1](join[](a,d)))", (0, 1), (0, 1)),
)


def signed(text):
    """Pairs of a sign and a query."""
    return [({"+": 1, "-": -1}[part[0]], query_of(part[2:])) for part in text.split(" | ") if part]


class Multiplied(unittest.TestCase):
    def test_sums(self):
        for text, expected in SUMS:
            told = summands(plan=read(text), widths=WIDTHS)
            self.assertEqual(told, [(sign, number(query)) for sign, query in signed(expected)], text)
            self.assertTrue(isinstance(told, list) and all(isinstance(pair, tuple) for pair in told))

    def test_unions(self):
        for text, expected in UNIONS:
            told = members(plan=read(text), widths=WIDTHS)
            self.assertEqual(told, [number(query_of(part)) for part in expected.split(" | ") if part], text)
        for text, expected in SUMS:
            if "less" not in text:
                self.assertEqual(members(read(text), WIDTHS), [number(query) for _, query in signed(expected)])

    def test_example(self):
        self.assertEqual(members(read("map[c0](join[0=0](e,e))"), {"e": 2}),
                         [((("var", 0),), (("e", (("var", 0), ("var", 1))), ("e", (("var", 0), ("var", 2)))))])

    def test_great_numbers(self):
        told = summands(("choose", ("table", "d"), (((0, ((0, 1),)), "=", (-GREAT, ())),)), WIDTHS)
        self.assertEqual(told, [(1, ((("num", -GREAT),), (("d", (("num", -GREAT),)),)))])

    def test_any_plan(self):
        chance = random.Random(371)
        dropped = 0
        for shape in ("sum", "union"):
            for _ in range(300):
                plan, width = some_sum(chance, 4, shape)
                told = summands(plan, SMALL) if shape == "sum" else [(1, query) for query in members(plan, SMALL)]
                self.assertEqual(told, multiply(plan, SMALL), plan)
                self.assertTrue(all(len(query[0]) == width for _, query in told))
                dropped += not told
        self.assertGreater(dropped, 20)

    def test_the_answer_of_a_sum(self):
        chance = random.Random(372)
        for plan in small_sums(chance, 120):
            tables = some_tables(chance, SMALL, many=4)
            total = bag_of({})
            for sign, query in summands(plan, SMALL):
                total = total + bag_of(query_by_hand(query, dicts_of(tables))) * sign
            self.assertEqual(total, answer(plan, tables), plan)

    def test_the_answer_of_a_union(self):
        chance = random.Random(373)
        for plan in small_sums(chance, 120, "union"):
            tables = some_tables(chance, SMALL, many=4, counts=(1, 1, 2))
            rows = {row for query in members(plan, SMALL) for row in query_by_hand(query, dicts_of(tables))}
            self.assertEqual(rows, set(dict_of(answer(plan, tables))), plan)

    def test_no_queries(self):
        for text, of_sum, of_union in NO_QUERIES:
            refused(self, NotQuery, {"path": of_sum}, summands, read(text), WIDTHS)
            refused(self, NotQuery, {"path": of_union}, members, read(text), WIDTHS)
            self.assertIn(of_sum, [path for path, _ in walk_parts(read(text))])

    def test_refused_where_nothing_is_left(self):
        # Also where the node would multiply with no query.
        refused(self, NotQuery, {"path": (1,)}, summands, read("join[](choose[1=2](d),distinct(d))"), WIDTHS)

    def test_what_is_passed_and_returned(self):
        widths = {"a": 2}
        told = summands(read("plus(a,a)"), widths)
        told.clear()
        self.assertEqual(len(summands(read("plus(a,a)"), widths)), 2)
        self.assertEqual(widths, {"a": 2})


def number(query):
    """The query with its variables numbered by first occurrence in the body."""
    order = {}
    for _, terms in query[1]:
        for kind, at in terms:
            if kind == "var":
                order.setdefault(at, len(order))

    def new(terms):
        return tuple(var(order[at]) if kind == "var" else (kind, at) for kind, at in terms)

    return (new(query[0]), tuple((name, new(terms)) for name, terms in query[1]))


def exactly(text):
    """The query with the numbers 0 to 2 for the variables x, y and z."""
    return query_of(text, {"x": 0, "y": 1, "z": 2})


class PlanOf(unittest.TestCase):
    def check(self, query):
        plan = plan_of(query=query)
        self.assertEqual(summands(plan, WIDTHS), [(1, query)])
        self.assertEqual(width_of(plan, WIDTHS), len(query[0]))
        for _, node in walk_parts(plan):
            self.assertIn(node[0], ("table", "choose", "map", "join"))

    def test_queries(self):
        for text in (":e()", "x:d(x)", ":d(5)", "5:d(5)", "7,x,7,x:d(x)", "x,y:a(x,y)", "y,x:a(x,y)", "x:a(x,x)",
                     "4:a(4,4)", "x:a(4,x)", ":c(x,x,x)", "x:c(x,5,x) c(5,x,5)", "z,x,x,-3:a(x,y) a(y,z)",
                     "x:d(x) d(x) d(x)", ":e() e()", "y:e() a(x,y) e() d(y)", ":a(1,2) a(1,2)",
                     "z,y,x:d(x) d(y) d(z)", ":a(x,y) b(y,z) a(z,x) b(x,x) a(y,0) d(z)"):
            self.check(number(query_of(text)))

    def test_six_wide_atoms(self):
        terms = [tuple(("var", 12 * at + column) for column in range(12)) for at in range(6)]
        query = (terms[5] + terms[0], tuple(("w", part) for part in terms))
        self.assertEqual(summands(plan_of(query), {"w": 12}), [(1, query)])

    def test_any_query(self):
        chance = random.Random(381)
        for _ in range(300):
            self.check(some_query(chance, atoms=5, variables=4, names="ade", head=4))

    def test_every_summand(self):
        chance = random.Random(382)
        for plan in small_sums(chance, 60):
            for _, query in summands(plan, SMALL):
                self.check(query)

    def test_the_answer(self):
        chance = random.Random(383)
        for _ in range(60):
            query = some_query(chance, names="ade")
            tables = some_tables(chance, SMALL, many=4)
            self.assertEqual(plan_by_hand(plan_of(query), dicts_of(tables)), query_by_hand(query, dicts_of(tables)))


class LeastForm(unittest.TestCase):
    def test_forms(self):
        for text, expected in (
                ("x,y:a(x,y)", "x,y:a(x,y)"),
                ("y,x:a(x,y)", "x,y:a(y,x)"),
                (":a(x,y)", ":a(x,y)"),
                (":b(x,y) a(z,x)", ":a(x,y) b(y,z)"),
                ("z:a(x,y) a(y,z)", "x:a(y,x) a(z,y)"),
                (":d(x) d(4)", ":d(4) d(x)"),
                (":d(x) d(y) d(x)", ":d(x) d(x) d(y)"),
                ("x:d(y) d(x) d(y)", "x:d(x) d(y) d(y)"),
                (":a(5,x) a(x,4)", ":a(5,x) a(x,4)"),
                ("3:d(-10) d(-9)", "3:d(-10) d(-9)"),
                (":e() e() d(x)", ":d(x) e() e()"),
                (":a(x,y) a(z,x)", ":a(x,y) a(y,z)"),
                (":a(x,y) a(x,z)", ":a(x,y) a(x,z)"),
                (":a(y,x) a(z,x)", ":a(x,y) a(z,y)")):
            self.assertEqual(least_form(query=query_of(text)), exactly(expected), text)

    def test_any_query(self):
        chance = random.Random(384)
        for _ in range(300):
            query = some_query(chance, atoms=5, variables=5, names="aaade", head=2)
            told = least_form(query)
            self.assertEqual(told, least_by_hand(query), query)
            self.assertEqual(least_form(shuffled(chance, query)), told)
            self.assertEqual(least_form(told), told)

    def test_queries_of_one_table(self):
        # Many atoms that look alike.
        chance = random.Random(385)
        for _ in range(100):
            query = some_query(chance, atoms=6, variables=5, names="a", numbers=(0,), head=1)
            self.assertEqual(least_form(shuffled(chance, query)), least_by_hand(query), query)

    def test_look_alikes(self):
        pairs = ((":a(x,y) a(y,z) a(z,x)", ":a(x,y) a(y,z) a(x,z)"), (":d(x) d(x)", ":d(x) d(y)"),
                 ("x:a(x,y)", "y:a(x,y)"), (":d(x)", ":d(x) d(x)"), (":d(1)", ":d(2)"), ("x,x:d(x)", "x:d(x)"),
                 (":a(x,y) a(z,w)", ":a(x,y) a(z,z)"), (":a(x,y)", ":b(x,y)"), ("1:d(x)", "x:d(x)"),
                 (":a(x,y) a(y,x) a(z,z)", ":a(x,y) a(y,z) a(z,x)"))
        for one, two in pairs:
            self.assertNotEqual(least_form(query_of(one)), least_form(query_of(two)))

    def test_six_equal_atoms(self):
        for query in (query_of(":d(u) d(v) d(w) d(x) d(y) d(z)"), query_of(":d(u) d(u) d(u) d(u) d(u) d(u)"),
                      query_of("z:a(u,v) a(v,w) a(w,x) a(x,y) a(y,z) a(z,u)")):
            self.assertEqual(least_form(query), least_by_hand(query))
            self.assertEqual(len(least_form(query)[1]), 6)


class Mappings(unittest.TestCase):
    def test_mappings(self):
        for query, other, expected in (
                (":d(x)", ":d(1) d(y) d(0)", (("num", 0),)),
                (":d(x)", ":d(y) d(z)", (var(0),)),
                ("x:d(x)", "z:d(y) d(z)", (var(1),)),
                (":a(x,y) a(y,z)", ":a(x,x)", (var(0),) * 3),
                (":a(x,y) a(y,z)", ":a(x,y) a(y,x)", (var(0), var(1), var(0))),
                (":a(x,x)", ":a(x,y) a(y,x)", None),
                (":d(1)", ":d(x)", None),
                (":d(1)", ":d(1)", ()),
                (":e()", ":d(1)", None),
                ("1:d(x)", "1:d(y)", (var(0),)),
                ("1:d(x)", "2:d(y)", None),
                ("x:d(x)", "5:d(5) d(4)", (("num", 5),)),
                ("x:d(x)", "5:d(4)", None),
                ("x,x:d(x)", "x,y:d(x) d(y)", None),
                ("x,y:d(x) d(y)", "x,x:d(x)", (var(0), var(0))),
                ("x:d(x)", ":d(x)", None),
                (":d(x)", "x:d(x)", None),
                ("x:d(x)", "x,x:d(x)", None),
                (":d(x) d(y)", ":d(-1) d(1)", (("num", -1), ("num", -1))),
                (":a(x,y) d(y)", ":a(1,2) a(2,3) d(3)", (("num", 2), ("num", 3)))):
            self.assertEqual(mapping_of(query=number(query_of(query)), other=number(query_of(other))), expected,
                             (query, other))

    def test_any_queries(self):
        chance = random.Random(391)
        found = 0
        for _ in range(500):
            query, other = [some_query(chance, atoms=4, variables=3, head=1) for _ in range(2)]
            if chance.random() < 0.5:
                query, other = shuffled(chance, query), shuffled(chance, other)
            told = maps_by_hand(query, other[0], other[1], other)
            self.assertEqual(mapping_of(query, other), told[0] if told else None, (query, other))
            found += len(told) > 1
        self.assertGreater(found, 15)

    def test_least_forms(self):
        # The variables of a least form do not always stand by first occurrence: the terms stand by their numbers.
        query = least_form(number(query_of("z:a(x,y) a(y,z)")))
        self.assertEqual(query, ((var(0),), (("a", (var(1), var(0))), ("a", (var(2), var(1))))))
        self.assertEqual(mapping_of(query, number(query_of("3:a(1,2) a(2,3)"))),
                         (("num", 3), ("num", 2), ("num", 1)))


class Cores(unittest.TestCase):
    def test_restricted(self):
        query = number(query_of("z:a(x,y) a(y,z) d(4) a(z,x)"))
        self.assertEqual(restricted(query=query, indexes=[1]), number(query_of("z:a(y,z)")))
        self.assertEqual(restricted(query, [2, 3]), number(query_of("z:d(4) a(z,x)")))
        self.assertEqual(restricted(query, [0, 1, 2, 3]), query)
        told = least_form(query)
        self.assertEqual(told, ((var(0),), (("a", (var(0), var(1))), ("a", (var(1), var(2))), ("a", (var(2), var(0))),
                                            ("d", (("num", 4),)))))
        self.assertEqual(restricted(told, [2]), ((var(1),), (("a", (var(0), var(1))),)))
        headless = number(query_of(":d(y) d(x)"))
        self.assertEqual(restricted(headless, [1]), ((), (("d", (var(0),)),)))

    def test_cores(self):
        for text, expected in (
                (":d(x)", [0]), (":d(x) d(y)", [0]), (":d(x) d(4)", [1]), ("x,y:d(x) d(y)", [0, 1]),
                ("y:d(x) d(y)", [1]), (":a(x,y) a(y,x) a(z,z)", [2]), (":a(x,y) a(y,z) a(z,x)", [0, 1, 2]),
                (":a(x,y) a(y,x) a(x,z)", [0, 1]), (":a(x,z) a(x,y) a(y,x)", [1, 2]),
                (":d(x) d(x) d(x)", [0]), ("x:a(x,y) a(x,z) a(w,z)", [0]), (":d(4) d(5) d(x)", [0, 1]),
                ("x:a(x,y) a(z,y) a(z,w)", [0]), (":e() e() d(x)", [0, 2]),
                (":a(x,y) a(y,x) a(u,v) a(v,u)", [0, 1]), (":a(x,y) a(u,v) a(y,x) a(v,u)", [0, 2])):
            self.assertEqual(core(query=number(query_of(text))), expected, text)

    def test_any_query(self):
        chance = random.Random(392)
        lengths = set()
        for _ in range(300):
            query = some_query(chance, atoms=5, variables=3, names="aad", numbers=(0,), head=1)
            query = shuffled(chance, query) if chance.random() < 0.5 else query
            told = core(query)
            self.assertEqual(told, core_by_hand(query), query)
            lengths.add((len(told), len(query[1])))
            small = restricted(query, told)
            self.assertEqual(core(small), list(range(len(told))))
            self.assertTrue(mapping_of(small, query) is not None and mapping_of(query, small) is not None)
        self.assertTrue({(1, 4), (2, 3), (3, 4), (2, 5)} <= lengths)

    def test_terms_and_variables(self):
        query = number(query_of("x:a(x,5) d(y)"))
        self.assertEqual([variables_in(query), terms_in(query)], [[0, 1], [("num", 5), var(0), var(1)]])


if __name__ == "__main__":
    unittest.main()
