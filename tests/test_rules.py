"""Rules: points 33 and 34."""

import random
import unittest

from deltamill import rules
from deltamill.errors import BadSteps, NoStep
from deltamill.plain import answer
from deltamill.plans import part_at, replaced, walk_parts, width_of
from deltamill.reader import read, show
from deltamill.rules import RULES, fitting, normal, replayed, rewritten
from plan_samples import EVERY_KIND, WIDTHS, fitting_plan, some_tables
from samples import NO_NUMBERS, Odd, refused

NAMES = ("drop-choose", "merge-choose", "choose-plus", "choose-less", "choose-distinct", "choose-map",
         "choose-without", "choose-join", "merge-map", "drop-map", "map-plus", "map-less", "join-plus-left",
         "join-plus-right", "without-plus", "without-distinct", "drop-distinct")

# For each rule, texts of nodes and of what they become. The table a has two columns, b two, c three, d one, e none.
TURNED = {
    "drop-choose": [("choose[](a)", "a"), ("choose[](choose[c0=1](a))", "choose[c0=1](a)")],
    "merge-choose": [("choose[c0=1](choose[c1<2&c0=c1](a))", "choose[c1<2&c0=c1&c0=1](a)"),
                     ("choose[](choose[c1<2](a))", "choose[c1<2](a)"), ("choose[](choose[](a))", "choose[](a)"),
                     ("choose[c0=1](choose[](a))", "choose[c0=1](a)")],
    "choose-plus": [("choose[c0=1](plus(a,b))", "plus(choose[c0=1](a),choose[c0=1](b))"),
                    ("choose[](plus(a,b))", "plus(choose[](a),choose[](b))")],
    "choose-less": [("choose[c0=1&c1<2](less(a,b))", "less(choose[c0=1&c1<2](a),choose[c0=1&c1<2](b))")],
    "choose-distinct": [("choose[c0=1](distinct(a))", "distinct(choose[c0=1](a))")],
    "choose-map": [("choose[c0=1&c1<=2*c0-c2](map[c1+3,7,-c0](a))",
                    "map[c1+3,7,-c0](choose[c1+3=1&7<=c0+2*c1+6](a))"),
                   ("choose[0=1](map[](a))", "map[](choose[0=1](a))"),
                   ("choose[c0=c1](map[c1,c1](a))", "map[c1,c1](choose[c1=c1](a))"),
                   ("choose[c0-c1=0](map[c1,c1](a))", "map[c1,c1](choose[0=0](a))")],
    "choose-without": [("choose[c0=1](without[0=1](a,b))", "without[0=1](choose[c0=1](a),b)"),
                       ("choose[](without[](a,b))", "without[](choose[](a),b)")],
    "choose-join": [
        ("choose[c0=1](join[0=1](a,b))", "join[0=1](choose[c0=1](a),b)"),
        ("choose[c3=1](join[0=1](a,b))", "join[0=1](a,choose[c1=1](b))"),
        ("choose[1=2](join[](a,b))", "join[](choose[1=2](a),b)"),
        ("choose[c2<=c3-4](join[](a,b))", "join[](a,choose[c0<=c1-4](b))"),
        ("choose[c0<c2&c1=c0&5!=c2&c1=c3&1<0&2*c2+c3<=c2](join[1=1](a,b))",
         "choose[c0<c2&c1=c3](join[1=1](choose[c1=c0&1<0](a),choose[5!=c0&2*c0+c1<=c0](b)))"),
        ("choose[c1+c2=0&c0=0](join[](a,b))", "choose[c1+c2=0](join[](choose[c0=0](a),b))"),
        ("choose[c1-c2=0&c5=0](join[](c,c))", "join[](choose[c1-c2=0](c),choose[c2=0](c))"),
        ("choose[1=1](join[](e,e))", "join[](choose[1=1](e),e)"),
        ("choose[c0=1](join[](e,a))", "join[](e,choose[c0=1](a))")],
    "merge-map": [("map[c1+1,2*c0-c2](map[c1,c0+c1+4,5](a))", "map[c0+c1+5,2*c1-5](a)"),
                  ("map[](map[c0](a))", "map[](a)"), ("map[3](map[](a))", "map[3](a)"),
                  ("map[c0-c1](map[c0,c0](a))", "map[0](a)")],
    "drop-map": [("map[c0,c1](a)", "a"), ("map[c0,c1,c2](c)", "c"), ("map[](e)", "e"), ("map[](map[](a))", "map[](a)"),
                 ("map[c0](group[;count](a))", "group[;count](a)"), ("map[c0,c1,c2](join[](a,d))", "join[](a,d)")],
    "map-plus": [("map[c1,4](plus(a,b))", "plus(map[c1,4](a),map[c1,4](b))")],
    "map-less": [("map[c1,4](less(a,b))", "less(map[c1,4](a),map[c1,4](b))")],
    "join-plus-left": [("join[0=1](plus(a,b),c)", "plus(join[0=1](a,c),join[0=1](b,c))"),
                       ("join[](plus(a,b),plus(c,c))", "plus(join[](a,plus(c,c)),join[](b,plus(c,c)))")],
    "join-plus-right": [("join[0=1](c,plus(a,b))", "plus(join[0=1](c,a),join[0=1](c,b))"),
                        ("join[](plus(a,b),plus(c,c))", "plus(join[](plus(a,b),c),join[](plus(a,b),c))")],
    "without-plus": [("without[0=1](plus(a,b),c)", "plus(without[0=1](a,c),without[0=1](b,c))")],
    "without-distinct": [("without[0=1](a,distinct(b))", "without[0=1](a,b)"),
                         ("without[](a,distinct(distinct(b)))", "without[](a,distinct(b))")],
    "drop-distinct": [("distinct(distinct(a))", "distinct(a)"), ("distinct(group[0;count](a))", "group[0;count](a)"),
                      ("distinct(loop[x](a,x))", "loop[x](a,x)")]}

# For each rule, texts of nodes that it just does not fit.
UNTURNED = {
    "drop-choose": ["choose[1=1](a)", "map[](a)", "a", "distinct(choose[](a))"],
    "merge-choose": ["choose[c0=1](a)", "choose[c0=1](distinct(choose[c0=1](a)))", "map[c0](choose[c0=1](a))"],
    "choose-plus": ["choose[c0=1](less(a,b))", "plus(choose[c0=1](a),b)", "map[c0](plus(a,b))"],
    "choose-less": ["choose[c0=1](plus(a,b))", "less(choose[c0=1](a),b)", "map[c0](less(a,b))"],
    "choose-distinct": ["distinct(choose[c0=1](a))", "choose[c0=1](top[;1](a))", "choose[c0=1](group[;count](a))"],
    "choose-map": ["map[c0](choose[c0=1](a))", "map[c0](map[c0](a))", "choose[c0=1](a)"],
    "choose-without": ["without[](choose[c0=1](a),b)", "without[](a,choose[c0=1](b))", "choose[c0=1](join[](a,b))"],
    "choose-join": ["choose[](join[](a,b))", "choose[c0=c2](join[](a,b))", "choose[c1-c2<0&c3=c0](join[](a,b))",
                    "choose[c0=1](without[](a,b))", "join[](choose[c0=1](a),b)", "map[c0](join[](a,b))"],
    "merge-map": ["map[c0](a)", "map[c0](choose[](map[c0](a)))", "choose[](map[c0](a))"],
    "drop-map": ["map[c0](a)", "map[c1,c0](a)", "map[c0,c1,c1](a)", "map[c0,c1,0](a)", "map[c0,c1+1](a)", "map[](a)",
                 "map[c0,c1](c)", "map[2*c0,c1](a)", "map[c0,c0](a)", "map[0,c1](a)", "map[c0,c1](join[](a,d))",
                 "choose[](a)", "map[7](d)"],
    "map-plus": ["map[c0](less(a,b))", "plus(map[c0](a),map[c0](b))", "choose[](plus(a,b))"],
    "map-less": ["map[c0](plus(a,b))", "less(map[c0](a),map[c0](b))", "choose[](less(a,b))"],
    "join-plus-left": ["join[](a,plus(a,b))", "join[](less(a,b),c)", "without[](plus(a,b),c)", "plus(join[](a,b),c)"],
    "join-plus-right": ["join[](plus(a,b),a)", "join[](c,less(a,b))", "without[](c,plus(a,b))"],
    "without-plus": ["without[](a,plus(a,b))", "without[](less(a,b),c)", "join[](plus(a,b),c)"],
    "without-distinct": ["without[](distinct(a),b)", "join[](a,distinct(b))", "without[](a,top[;1](b))"],
    "drop-distinct": ["distinct(a)", "distinct(top[;1](a))", "distinct(choose[](distinct(a)))", "distinct(plus(a,b))",
                      "group[;count](distinct(a))", "distinct(without[](distinct(a),b))"]}


def some_plans(seed, many, depth=5):
    chance = random.Random(seed)
    return [fitting_plan(chance, depth)[0] for _ in range(many)]


def normal_by_hand(plan, widths, most=10 ** 9):
    """As point 34 says: the first fitting pair again and again."""
    steps = []
    while len(steps) < most:
        found = fitting(plan, widths)
        if not found:
            return plan, steps
        plan = rewritten(plan, *found[0], widths)
        steps.append(found[0])
    return None, steps


class EachRule(unittest.TestCase):
    def test_names(self):
        self.assertEqual(RULES, NAMES)
        self.assertEqual(rules.RULES, NAMES)
        self.assertEqual((set(TURNED), set(UNTURNED)), (set(NAMES), set(NAMES)))

    def test_where_it_fits(self):
        for rule, pairs in TURNED.items():
            for before, after in pairs:
                plan = read(before)
                self.assertEqual(show(rewritten(plan, rule, (), WIDTHS)), after, (rule, before))
                self.assertIn((rule, ()), fitting(plan, WIDTHS))
                self.assertEqual(plan, read(before))

    def test_where_it_just_does_not_fit(self):
        for rule, texts in UNTURNED.items():
            for text in texts:
                # The own widths do not matter here: a plan need not be accepted to tell that a rule does not fit.
                refused(self, NoStep, {"rule": rule, "path": ()}, rewritten, read(text), rule, (), WIDTHS)
                self.assertNotIn((rule, ()), fitting(read(text), WIDTHS), (rule, text))

    def test_inside_a_plan(self):
        for rule, pairs in TURNED.items():
            for before, after in pairs:
                for around, path in (("distinct({})", (0,)), ("join[](a,without[](top[;1]({}),b))", (1, 0, 0)),
                                     ("loop[z](plus({0},{0}),map[](z))", (0, 1))):
                    plan = read(around.format(before))
                    expected = replaced(plan, path, read(after))
                    self.assertEqual(rewritten(plan, rule, path, WIDTHS), expected)
                    self.assertIn((rule, path), fitting(plan, WIDTHS))

    def test_the_answer_stays(self):
        chance = random.Random(1)
        for rule, pairs in TURNED.items():
            for before, after in pairs:
                for _ in range(15):
                    tables = some_tables(chance)
                    self.assertEqual(answer(read(before), tables), answer(read(after), tables), (rule, before))

    def test_by_name(self):
        plan = read("choose[](a)")
        self.assertEqual(rewritten(plan=plan, rule="drop-choose", path=(), widths={"a": 2}), ("table", "a"))
        self.assertEqual(fitting(plan=plan, widths={"a": 2}), [("drop-choose", ())])
        self.assertEqual(normal(plan=plan, widths={"a": 2}), (("table", "a"), [("drop-choose", ())]))
        self.assertEqual(replayed(plan=plan, steps=[("drop-choose", ())], widths={"a": 2}), ("table", "a"))


class Fitting(unittest.TestCase):
    def test_order(self):
        plan = read("choose[](choose[](plus(distinct(distinct(a)),map[c0,c1](map[c1,c0](plus(a,b))))))")
        told = fitting(plan, WIDTHS)
        self.assertEqual(told, [
            ("drop-choose", ()), ("merge-choose", ()), ("drop-choose", (0,)), ("choose-plus", (0,)),
            ("drop-distinct", (0, 0, 0)), ("merge-map", (0, 0, 1)), ("drop-map", (0, 0, 1)),
            ("map-plus", (0, 0, 1, 0))])
        self.assertTrue(all(isinstance(pair, tuple) for pair in told))

    def test_several_rules_at_one_path(self):
        self.assertEqual(fitting(read("join[](plus(a,b),plus(a,b))"), WIDTHS),
                         [("join-plus-left", ()), ("join-plus-right", ())])
        self.assertEqual(fitting(read("without[](plus(a,b),distinct(a))"), WIDTHS),
                         [("without-plus", ()), ("without-distinct", ())])
        self.assertEqual(fitting(read("map[c0,c1](less(a,b))"), WIDTHS), [("drop-map", ()), ("map-less", ())])

    def test_nothing_fits(self):
        for text in ("a", "plus(a,b)", "loop[x](a,map[c0,c3](join[1=0](x,b)))", "choose[c0=c2](join[](a,b))"):
            self.assertEqual(fitting(read(text), WIDTHS), [])
            self.assertEqual(normal(read(text), WIDTHS), (read(text), []))

    def test_just_what_can_be_rewritten(self):
        for plan in some_plans(2, 150) + list(EVERY_KIND):
            found = []
            for path, _ in walk_parts(plan):
                for rule in RULES:
                    try:
                        rewritten(plan, rule, path, WIDTHS)
                    except NoStep as error:
                        self.assertEqual((error.rule, error.path), (rule, path))
                    else:
                        found.append((rule, path))
            self.assertEqual(fitting(plan, WIDTHS), found)

    def test_the_own_table_has_the_width_of_the_start(self):
        # The start has two columns, whatever the names of the widths say.
        plan = read("loop[x](map[c0,c1](c),map[c0,c1](x))")
        self.assertEqual(fitting(plan, {"c": 3, "x'": 9}), [("drop-map", (1,))])
        plan = read("loop[x](d,map[c0](choose[c1=1](join[](x,c))))")
        self.assertEqual(fitting(plan, {"c": 3, "d": 1}), [("choose-join", (1, 0))])
        self.assertEqual(show(rewritten(plan, "choose-join", (1, 0), {"c": 3, "d": 1})),
                         "loop[x](d,map[c0](join[](x,choose[c0=1](c))))")
        inner = read("loop[x](d,loop[y](join[](x,x),map[c0,c1](y)))")
        self.assertEqual(fitting(inner, {"d": 1}), [("drop-map", (1, 1))])
        wide = read("loop[x](d,map[c0](loop[y](join[](x,x),map[c0,c0](choose[c2=1](join[](y,x))))))")
        self.assertEqual(fitting(wide, {"d": 1}), [("choose-join", (1, 0, 1, 0))])


class Rewriting(unittest.TestCase):
    def test_no_part(self):
        plan = read("plus(choose[](a),b)")
        for path in ((1, 0), (2,), (0, 0, 0), (-1,), (0, 1), (False,), (True,), (None,), ("0",), [], [0], None, 0, ""):
            refused(self, NoStep, {"rule": "drop-choose", "path": path}, rewritten, plan, "drop-choose", path, WIDTHS)

    def test_another_name(self):
        plan = read("choose[](a)")
        for rule in ("", "drop", "Drop-choose", "drop-choose ", "drop_choose", "choose-top", 1, ("drop-choose",)):
            refused(self, NoStep, {"rule": rule, "path": ()}, rewritten, plan, rule, (), WIDTHS)
        for rule in NO_NUMBERS + (Odd(),):
            refused(self, NoStep, {"rule": rule, "path": ()}, rewritten, plan, rule, (), WIDTHS)
        refused(self, NoStep, {"rule": "no", "path": (7,)}, rewritten, plan, "no", (7,), WIDTHS)

    def test_the_answer_and_the_width_stay(self):
        chance = random.Random(3)
        seen = set()
        for plan in some_plans(4, 400):
            tables = some_tables(chance)
            expected, width = answer(plan, tables), width_of(plan, WIDTHS)
            for rule, path in fitting(plan, WIDTHS)[:8]:
                told = rewritten(plan, rule, path, WIDTHS)
                self.assertEqual(width_of(told, WIDTHS), width)
                self.assertEqual(answer(told, tables), expected, (rule, path, show(plan)))
                for place, node in walk_parts(plan):
                    if place[:len(path)] != path and path[:len(place)] != place:
                        self.assertEqual(part_at(told, place), node)
                seen.add(rule)
        self.assertEqual(seen, set(RULES))


class Normal(unittest.TestCase):
    def test_example(self):
        told = normal(read("choose[c2=4&c0<c3](join[0=0](a,plus(b,b)))"), {"a": 2, "b": 2})
        self.assertIsInstance(told, tuple)
        half = "choose[c0<c3](join[0=0](a,choose[c0=4](b)))"
        self.assertEqual(show(told[0]), f"plus({half},{half})")
        self.assertEqual(told[1], [("choose-join", ()), ("choose-plus", (0, 1)), ("join-plus-right", (0,)),
                                   ("choose-plus", ())])

    def test_any_plan(self):
        chance = random.Random(5)
        longest = 0
        for plan in some_plans(6, 400, 6) + list(EVERY_KIND):
            expected = normal_by_hand(plan, WIDTHS, 300)
            if expected[0] is None:
                continue
            told = normal(plan, WIDTHS)
            self.assertEqual(told, expected)
            self.assertEqual(fitting(told[0], WIDTHS), [])
            self.assertEqual(replayed(plan, told[1], WIDTHS), told[0])
            tables = some_tables(chance)
            self.assertEqual(answer(told[0], tables), answer(plan, tables))
            longest = max(longest, len(told[1]))
        self.assertGreater(longest, 10)

    def test_inside_steps_of_loops(self):
        plan = read("loop[x](d,map[c0](map[c0,c1](choose[c1=1&0=0](join[](choose[](x),plus(d,d))))))")
        told, steps = normal(plan, {"d": 1})
        self.assertEqual(show(told), "loop[x](d,plus(map[c0](join[](choose[0=0](x),choose[c0=1](d))),"
                                     "map[c0](join[](choose[0=0](x),choose[c0=1](d)))))")
        self.assertEqual(steps, normal_by_hand(plan, {"d": 1})[1])
        self.assertEqual(steps[:2], [("merge-map", (1,)), ("choose-join", (1, 0))])

    def test_the_node_above(self):
        # What a rule makes of a node may let another rule fit at the node above, which then comes first.
        plan = read("choose[c0=1](choose[](plus(a,distinct(distinct(a)))))")
        self.assertEqual(normal(plan, WIDTHS)[1], [("merge-choose", ()), ("choose-plus", ()), ("choose-distinct", (1,)),
                                                   ("choose-distinct", (1, 0)), ("drop-distinct", (1,))])
        plan = read("distinct(map[c0,c1](distinct(distinct(a))))")
        self.assertEqual(normal(plan, WIDTHS)[1], [("drop-map", (0,)), ("drop-distinct", ()), ("drop-distinct", ())])

    def test_long_ones(self):
        plan = read("plus(a,b)")
        for _ in range(3):
            plan = ("join", plan, plan, ())
        told, steps = normal(plan, WIDTHS)
        self.assertEqual(sum(node[0] == "table" for _, node in walk_parts(told)), 256 * 8)
        self.assertEqual(fitting(told, WIDTHS), [])
        self.assertEqual(replayed(plan, steps, WIDTHS), told)

    def test_what_is_returned(self):
        plan = read("choose[](a)")
        normal(plan, WIDTHS)[1].clear()
        fitting(plan, WIDTHS).clear()
        self.assertEqual(normal(plan, WIDTHS)[1], [("drop-choose", ())])
        self.assertEqual(fitting(plan, WIDTHS), [("drop-choose", ())])

    def test_the_widths_stay(self):
        widths = dict(WIDTHS)
        for plan in EVERY_KIND:
            normal(plan, widths)
            fitting(plan, widths)
        self.assertEqual(widths, WIDTHS)


class Replaying(unittest.TestCase):
    def test_no_steps(self):
        for plan in EVERY_KIND:
            self.assertEqual(replayed(plan, [], WIDTHS), plan)

    def test_steps_that_fit(self):
        chance = random.Random(7)
        for plan in some_plans(8, 100):
            made, steps = plan, []
            for _ in range(5):
                found = fitting(made, WIDTHS)
                if found:
                    steps.append(chance.choice(found))
                    made = rewritten(made, *steps[-1], WIDTHS)
            before = list(steps)
            self.assertEqual(replayed(plan, steps, WIDTHS), made)
            self.assertEqual(steps, before)

    def test_a_first_step_that_does_not(self):
        plan = read("choose[c0=1](plus(a,b))")
        good = normal(plan, WIDTHS)[1]
        self.assertEqual(good, [("choose-plus", ())])
        for wrong in (("choose-plus", ()), ("drop-choose", (0,)), ("no rule", ()), ("drop-choose", (5,)), (None, None)):
            refused(self, BadSteps, {"index": 1}, replayed, plan, good + [wrong], WIDTHS)
            refused(self, BadSteps, {"index": 1}, replayed, plan, good + [wrong] + [wrong], WIDTHS)
        refused(self, BadSteps, {"index": 0}, replayed, plan, [("choose-less", ())] + good, WIDTHS)

    def test_the_index(self):
        plan = read("distinct(distinct(distinct(distinct(a))))")
        for many in range(6):
            steps = [("drop-distinct", ())] * many
            if many <= 3:
                replayed(plan, steps, WIDTHS)
            else:
                refused(self, BadSteps, {"index": 3}, replayed, plan, steps, WIDTHS)


if __name__ == "__main__":
    unittest.main()
