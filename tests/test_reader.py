"""The text of a plan: point 22."""

import random
import unittest

from deltamill.errors import BadText
from deltamill.forms import has_form
from deltamill.plans import walk_parts
from deltamill.reader import read, show
from deltamill.terms import col, num
from plan_samples import EVERY_KIND, fitting_plan, some_plan
from samples import refused

A, B = ("table", "a"), ("table", "b")
NINES = "9" * 40

TEXTS = (
    "a", "choose[](a)", "choose[c0=c1&2*c0-c1+3!=-5&0<1&c1<=1" + "0" * 39 + "](a)", "map[](a)",
    "map[c1,0,-2*c0+1" + "0" * 39 + "*c1+4](a)", "join[](a,b)", "join[1=0,0=0,1=0](a,b)", "plus(a,b)", "less(a,b)",
    "distinct(a)", "without[](a,b)", "without[0=1](a,b)", "group[;count](a)", "group[1,1,0;sum:0](a)",
    "group[0;least:1](a)", "group[0;greatest:1](a)", "top[;1](a)", "top[0,0;1" + "0" * 39 + "](a)",
    "loop[x](a,map[c0,c3](join[1=0](x,b)))", "loop[x](a,loop[y'](plus(x,b),without[](y',b)))")

TERMS = {
    "c0": col(0), "c99": col(99), "-c3": (0, ((3, -1),)), "2*c3": (0, ((3, 2),)), "-2*c3": (0, ((3, -2),)),
    "c0+2*c1-c4": (0, ((0, 1), (1, 2), (4, -1))), "c0-5": (-5, ((0, 1),)), "c0+5": (5, ((0, 1),)),
    "-c0-c1-1": (-1, ((0, -1), (1, -1))), "-2*c0+c1-3*c2+10": (10, ((0, -2), (1, 1), (2, -3))),
    "0": num(0), "7": num(7), "-7": num(-7), "10": num(10), NINES: num(int(NINES)), "-" + NINES: num(-int(NINES)),
    NINES + "*c0-" + NINES: (-int(NINES), ((0, int(NINES)),)), "12*c10-12*c11": (0, ((10, 12), (11, -12)))}

# What stands in a map with one term, and is the text of no term.
NO_TERMS = (
    "00", "01", "-0", "-00", "+1", "+c0", "--1", "- 1", " 1", "1 ", "1.0", "1e3", "1_0", "0x1", "c", "c-1", "c01",
    "c00", "c100", "c" + NINES, "C0", "d0", "c0c1", "c0 + c1", "c0+ 1", "c1+c0", "c0+c0", "c0-c0", "2*c1+c0",
    "c0+c2+c1", "0*c0", "-0*c0", "c0+0*c1", "1*c0", "-1*c0", "c0+1*c1", "c0-1*c1", "02*c0", "c0*2", "2c0", "2**c0",
    "2*", "2*3", "*c0", "c0+", "c0-", "c0++1", "c0+-1", "c0--1", "c0-+1", "c0+0", "c0-0", "c0+01", "1+c0", "5-c0",
    "c0+1+1", "c0+2-1", "1+1", "c0+1+c1", "(c0)", "c0;", "c0=1", "c0&c1", "x", "'", "\t1", "1\n", "\u0661", "\u00b2",
    "c\u0661", "\uff11", "2\u00d7c0", "%", "c0%2", "-", "+", "c0/2", "c0,", ",c0", "c0,,c1", ",")

# Texts that are not the text of any plan.
NO_PLANS = (
    "", " ", "A", "a ", " a", "a1", "1", "a_b", "a-b", "abcdefghi", "abcdefghi'", "a''", "'", "'a", "a'b", "\u00e4",
    "a\n", "a\u0000", "choose", "map", "join", "plus", "less", "distinct", "without", "group", "top", "loop",
    "a(b)", "a()", "(a)", "()", "a,b", "a)", "(a", "table(a)", "table[a](b)", "minus(a,b)", "Plus(a,b)", "plus'(a,b)",
    "plus(a)", "plus()", "plus(a,)", "plus(,a)", "plus(a,b,c)", "plus (a,b)", "plus( a,b)", "plus(a, b)", "plus(a,b) ",
    "plus(a,b", "plus a,b)", "plus(a,b))", "plus((a),b)", "plus[](a,b)", "less[](a,b)", "distinct[](a)", "distinct()",
    "distinct(a,b)", "distinct(a)b", "distinct(a)(a)", "distinct(a),a", "distinct{a}", "distinct[a]",
    "choose(a)", "choose[](a,b)", "choose[]", "choose[]a", "choose[(a)", "choose](a)", "choose[[]](a)", "choose[c0](a)",
    "choose[c0=](a)", "choose[=c0](a)", "choose[c0==c1](a)", "choose[c0>c1](a)", "choose[c0>=c1](a)",
    "choose[c0=<c1](a)", "choose[c0!c1](a)", "choose[c0<>c1](a)", "choose[c0 =c1](a)", "choose[c0<= c1](a)",
    "choose[c0=c1,c0=c1](a)", "choose[c0=c1&](a)", "choose[&c0=c1](a)", "choose[c0=c1&&c0=c1](a)",
    "choose[c0=c1=c2](a)", "choose[c0<=-0](a)", "choose[c0=c1& c0=c1](a)", "choose[c0=c1](a",
    "map(a)", "map[](a,b)", "map[c0&c1](a)", "map[c0;c1](a)", "map[c0]", "map[c0][c1](a)", "map[c0,](a)",
    "join(a,b)", "join[](a)", "join[](a,b,c)", "join[0](a,b)", "join[0=](a,b)", "join[=0](a,b)", "join[00=0](a,b)",
    "join[0=01](a,b)", "join[-1=0](a,b)", "join[-0=0](a,b)", "join[+1=0](a,b)", "join[0=100](a,b)", "join[100=0](a,b)",
    "join[0=0,](a,b)", "join[,0=0](a,b)", "join[0=0 ,0=0](a,b)", "join[0=0&0=0](a,b)", "join[0=0=0](a,b)",
    "join[c0=c0](a,b)", "without(a,b)", "without[0,0](a,b)", "without[0=0](a)", "without[0=0;](a,b)",
    "group[](a)", "group(a)", "group[count](a)", "group[;](a)", "group[0;](a)", "group[0](a)", "group[;count:0](a)",
    "group[;count:](a)", "group[;sum](a)", "group[;sum:](a)", "group[;sum:01](a)", "group[;sum:-1](a)",
    "group[;sum:100](a)", "group[;sum:0,1](a)", "group[;total:0](a)", "group[;Count](a)", "group[;least](a)",
    "group[; count](a)", "group[0,;count](a)", "group[,0;count](a)", "group[0 ,1;count](a)", "group[00;count](a)",
    "group[100;count](a)", "group[c0;count](a)", "group[;count;](a)", "group[;;count](a)", "group[;count](a,b)",
    "group[;count](a,)", "group[;sum:1:1](a)", "top(a)", "top[](a)", "top[1](a)", "top[;](a)", "top[;0](a)",
    "top[;01](a)", "top[;00](a)", "top[;-1](a)", "top[;+1](a)", "top[;1;](a)", "top[;1,1](a)", "top[0,;1](a)",
    "top[-1;1](a)", "top[;1](a,b)", "top[;1.0](a)", "loop(a,b)", "loop[](a,b)", "loop[x](a)", "loop[x](a,b,c)",
    "loop[plus](a,b)", "loop[x,y](a,b)", "loop[x''](a,b)", "loop[abcdefghi](a,b)", "loop[X](a,b)", "loop[x ](a,b)",
    "loop[1](a,b)", "loop[x(a,b)", "loop x(a,b)", "loop['](a,b)", "distinct(choose)", "distinct(a)%", "a%")


def nested(deep):
    """The text of a plan with so many round brackets inside each other."""
    return "distinct(" * deep + "a" + ")" * deep


class Both(unittest.TestCase):
    def check(self, plan, text):
        self.assertEqual(show(plan), text)
        self.assertEqual(read(text), plan)

    def test_every_kind(self):
        self.assertEqual(len(TEXTS), len(EVERY_KIND))
        for plan, text in zip(EVERY_KIND, TEXTS):
            self.check(plan, text)

    def test_examples(self):
        self.check(("choose", ("join", A, B, ((1, 0),)), (((0, ((0, 1),)), "<", (-5, ((3, 2),))),)),
                   "choose[c0<2*c3-5](join[1=0](a,b))")
        refused(self, BadText, {"value": "map[c1+c0](a)"}, read, "map[c1+c0](a)")

    def test_by_name(self):
        self.assertEqual(show(plan=("plus", A, B)), "plus(a,b)")
        self.assertEqual(read(text="plus(a,b)"), ("plus", A, B))

    def test_terms(self):
        for text, term in TERMS.items():
            self.check(("map", A, (term,)), f"map[{text}](a)")
            self.check(("map", A, (term, num(3), term)), f"map[{text},3,{text}](a)")
            for op in ("=", "!=", "<", "<="):
                self.check(("choose", A, ((term, op, num(-1)), (col(2), op, term))),
                           f"choose[{text}{op}-1&c2{op}{text}](a)")

    def test_names(self):
        for name in ("a", "abcdefgh", "abcdefgh'", "z'", "table", "count", "sum", "c", "choose'", "map'", "join'",
                     "plus'", "less'", "distinct'", "without'", "group'", "top'", "loop'", "tops", "loo", "mapmap"):
            self.check(("table", name), name)
            self.check(("loop", name, ("table", name), ("distinct", ("table", name))),
                       f"loop[{name}]({name},distinct({name}))")

    def test_nested_ones(self):
        self.check(("less", ("plus", A, ("distinct", B)), ("top", ("group", A, (3,), ("sum", 12)), (99, 0), 45)),
                   "less(plus(a,distinct(b)),top[99,0;45](group[3;sum:12](a)))")
        self.check(("without", ("without", A, B, ((2, 10),)), ("join", B, A, ()), ((0, 0), (0, 0))),
                   "without[0=0,0=0](without[2=10](a,b),join[](b,a))")

    def test_any_plan(self):
        chance = random.Random(1)
        plans = [some_plan(chance, 5) for _ in range(150)] + [fitting_plan(chance, 6)[0] for _ in range(150)]
        for plan in plans:
            self.assertEqual(read(show(plan)), plan)
            self.assertTrue(set(show(plan)) <= set(map(chr, range(33, 127))) - {"%"})

    def test_kinds_of_values(self):
        for _, node in walk_parts(read("group[0,1;sum:2](choose[c0=1](map[c0+1](join[0=1](a,top[2;3](b)))))")):
            self.assertIsInstance(node, tuple)
            self.assertTrue(has_form(node))


class BadTexts(unittest.TestCase):
    def check(self, text):
        refused(self, BadText, {"value": text}, read, text)

    def test_terms(self):
        for text in NO_TERMS:
            self.check(f"map[{text}](a)")
            self.check(f"choose[{text}=1](a)")
            self.check(f"choose[c0<{text}](a)")

    def test_plans(self):
        for text in NO_PLANS:
            self.check(text)

    def test_something_behind_the_end(self):
        for text in TEXTS:
            for more in (" ", ")", "(", "]", ",", "a'", "''", "(a)", "&", "\n"):
                if text != "a" or more != "a'":
                    self.check(text + more)

    def test_a_part_of_a_text(self):
        for text in TEXTS:
            for length in range(1, len(text)):
                part = text[:length]
                if not part.isalpha() or len(part) > 8:
                    self.check(part)

    def test_changed_texts(self):
        # What is read at all is the plan whose text it is.
        chance = random.Random(2)
        letters = "abcx0123456789()[],;:=!<&*+-' '\n"
        good = 0
        for _ in range(6000):
            text = list(chance.choice(TEXTS))
            for _ in range(chance.choice((1, 1, 2))):
                at = chance.randrange(len(text) + 1)
                text[at:at + chance.choice((0, 1, 1, 2))] = chance.choice(("", chance.choice(letters)))
            text = "".join(text)
            try:
                plan = read(text)
            except BadText as error:
                self.assertEqual(error.value, text)
            else:
                good += 1
                self.assertEqual(show(plan), text)
                self.assertTrue(all(has_form(node) for _, node in walk_parts(plan)))
        self.assertGreater(good, 100)


class Sizes(unittest.TestCase):
    def test_ten_brackets(self):
        self.assertEqual(show(read(nested(10))), nested(10))
        self.assertEqual(len(list(walk_parts(read(nested(10))))), 11)

    def test_more_than_ten_brackets(self):
        for deep in (11, 12, 30, 300):
            refused(self, BadText, {"value": nested(deep)}, read, nested(deep))
        for text in ("(" * 11, "(" * 1900, ")" * 20 + "(" * 20):
            refused(self, BadText, {"value": text}, read, text)

    def test_closed_brackets_do_not_count(self):
        for text in (f"plus({nested(9)},{nested(9)})", f"plus(plus({nested(8)},{nested(8)}),{nested(9)})",
                     f"loop[x](plus({nested(8)},a),join[](less(a,b),{nested(8)}))"):
            self.assertEqual(show(read(text)), text)
        for text in (f"plus({nested(9)},{nested(10)})", f"plus({nested(10)},a)", f"plus(a,less({nested(9)},b))"):
            refused(self, BadText, {"value": text}, read, text)

    def test_square_brackets_do_not_count(self):
        text = "choose[c0=1](" * 10 + "a" + ")" * 10
        self.assertEqual(show(read(text)), text)

    def test_long_texts(self):
        terms = ",".join(f"{NINES}*c{column}-{NINES}" for column in range(23))
        text = f"map[{terms}](a)"
        self.assertGreater(len(text), 1900)
        self.assertEqual(show(read(text)), text)
        refused(self, BadText, {"value": text + ")"}, read, text + ")")
        keys = ",".join(str(column % 100) for column in range(650))
        self.assertEqual(read(f"group[{keys};count](a)")[2], tuple(column % 100 for column in range(650)))

    def test_forty_digits(self):
        for number in (10 ** 39, 10 ** 40 - 1):
            self.assertEqual(read(f"top[;{number}](a)"), ("top", A, (), number))
            self.assertEqual(read(f"map[-{number}](a)"), ("map", A, (num(-number),)))


if __name__ == "__main__":
    unittest.main()
