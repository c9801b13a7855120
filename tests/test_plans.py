"""The parts of plans: points 18 and 21."""

import inspect
import random
import unittest

from deltamill import plans
from deltamill.errors import NameTaken, NoPart, NotPolynomial
from deltamill.plans import degree, is_monotone, is_polynomial, part_at, replaced, substituted, tables_of, walk_parts
from plan_samples import EVERY_KIND, some_plan
from samples import NO_NUMBERS, refused

A, B, C, X, Y = [("table", name) for name in "abcxy"]


def below(node):
    """The sub-plans of a node."""
    return {"table": (), "join": node[1:3], "without": node[1:3], "plus": node[1:], "less": node[1:],
            "loop": node[2:]}.get(node[0], node[1:2])


def parts_by_hand(node, path=()):
    found = [(path, node)]
    for position, sub in enumerate(below(node)):
        found.extend(parts_by_hand(sub, path + (position,)))
    return found


def free_by_hand(node, own=()):
    """The names of the free tables, each as often as it stands there."""
    if node[0] == "table":
        return [] if node[1] in own else [node[1]]
    if node[0] == "loop":
        return free_by_hand(node[2], own) + free_by_hand(node[3], own + (node[1],))
    return [name for sub in below(node) for name in free_by_hand(sub, own)]


def some_plans(seed, many):
    chance = random.Random(seed)
    return list(EVERY_KIND) + [some_plan(chance, 4) for _ in range(many)]


class Walking(unittest.TestCase):
    def test_preorder(self):
        plan = ("join", ("plus", A, ("distinct", B)), ("loop", "x", C, ("choose", X, ())), ())
        self.assertEqual([path for path, _ in walk_parts(plan)],
                         [(), (0,), (0, 0), (0, 1), (0, 1, 0), (1,), (1, 0), (1, 1), (1, 1, 0)])
        self.assertEqual(list(walk_parts(plan)), parts_by_hand(plan))

    def test_any_plan(self):
        for plan in some_plans(1, 80):
            self.assertEqual(list(walk_parts(plan=plan)), parts_by_hand(plan))

    def test_one_by_one(self):
        self.assertTrue(inspect.isgeneratorfunction(walk_parts))
        walk = walk_parts(("plus", A, B))
        pair = next(walk)
        self.assertIsInstance(pair, tuple)
        self.assertEqual([pair, next(walk), next(walk)], [((), ("plus", A, B)), ((0,), A), ((1,), B)])
        self.assertIsNone(next(walk, None))

    def test_part_at(self):
        for plan in some_plans(2, 80):
            for path, node in parts_by_hand(plan):
                self.assertIs(part_at(plan, path), node)
        self.assertEqual(part_at(path=(1,), plan=("plus", A, B)), B)

    def test_no_part(self):
        for plan in EVERY_KIND:
            for path, node in parts_by_hand(plan):
                for position in tuple(range(len(below(node)), 5)) + (-1, -2, 10 ** 30):
                    for end in ((), (0,), (1, 0)):
                        wrong = path + (position,) + end
                        refused(self, NoPart, {"path": wrong}, part_at, plan, wrong)
                        refused(self, NoPart, {"path": wrong}, replaced, plan, wrong, A)

    def test_no_paths(self):
        plan = ("plus", ("distinct", A), B)
        for wrong in NO_NUMBERS:
            if wrong != 0 and wrong != 1 or isinstance(wrong, bool):
                refused(self, NoPart, {"path": (wrong,)}, part_at, plan, (wrong,))
                refused(self, NoPart, {"path": (0, wrong)}, replaced, plan, (0, wrong), A)
        for wrong in ([], [0], None, 0, "0", ""):
            refused(self, NoPart, {"path": wrong}, part_at, plan, wrong)
            refused(self, NoPart, {"path": wrong}, replaced, plan, wrong, A)


class Replacing(unittest.TestCase):
    def test_each_part(self):
        other = ("map", ("table", "new"), ())
        for plan in some_plans(3, 40):
            for path, _ in parts_by_hand(plan):
                told = replaced(plan, path, other)
                self.assertEqual(dict(parts_by_hand(told))[path], other)
                kept = {at: node[0] for at, node in parts_by_hand(plan) if at[:len(path)] != path}
                self.assertEqual({at: node[0] for at, node in parts_by_hand(told) if at[:len(path)] != path}, kept)

    def test_each_part_by_itself(self):
        for plan in some_plans(4, 40):
            for path, node in parts_by_hand(plan):
                self.assertEqual(replaced(plan, path, node), plan)

    def test_examples(self):
        plan = ("loop", "x", A, ("without", X, B, ((0, 1),)))
        self.assertEqual(replaced(plan, (), C), C)
        self.assertEqual(replaced(plan, (0,), C), ("loop", "x", C, ("without", X, B, ((0, 1),))))
        self.assertEqual(replaced(plan, (1,), C), ("loop", "x", A, C))
        self.assertEqual(replaced(plan, (1, 0), C), ("loop", "x", A, ("without", C, B, ((0, 1),))))
        self.assertEqual(replaced(other=C, path=(1, 1), plan=plan), ("loop", "x", A, ("without", X, C, ((0, 1),))))
        self.assertEqual(plan, ("loop", "x", A, ("without", X, B, ((0, 1),))))
        self.assertEqual(replaced(("group", A, (1,), ("count",)), (0,), B), ("group", B, (1,), ("count",)))


class Tables(unittest.TestCase):
    def test_any_plan(self):
        for plan in some_plans(5, 150):
            self.assertEqual(tables_of(plan=plan), sorted(set(free_by_hand(plan))))

    def test_own_tables(self):
        self.assertEqual(tables_of(A), ["a"])
        self.assertEqual(tables_of(("plus", B, ("plus", A, B))), ["a", "b"])
        self.assertEqual(tables_of(("loop", "x", A, ("plus", X, B))), ["a", "b"])
        self.assertEqual(tables_of(("loop", "x", X, A)), ["a", "x"])
        self.assertEqual(tables_of(("plus", X, ("loop", "x", A, X))), ["a", "x"])
        self.assertEqual(tables_of(("loop", "x", A, ("loop", "y", X, ("plus", X, ("plus", Y, B))))), ["a", "b"])
        self.assertEqual(tables_of(("loop", "x", A, ("loop", "y", Y, X))), ["a", "y"])
        self.assertEqual(tables_of(("loop", "x", ("loop", "y", A, ("plus", X, Y)), X)), ["a", "x"])
        self.assertEqual(tables_of(("loop", "x", A, ("plus", X, ("table", "x'")))), ["a", "x'"])

    def test_a_new_list(self):
        tables_of(A).append("z")
        self.assertEqual(tables_of(A), ["a"])


class Substituting(unittest.TestCase):
    def test_free_parts_alone(self):
        other = ("distinct", ("table", "new"))
        self.assertEqual(substituted(A, "a", other), other)
        self.assertEqual(substituted(A, "b", other), A)
        self.assertEqual(substituted(("plus", A, ("less", B, A)), "a", other), ("plus", other, ("less", B, other)))
        loop = ("loop", "x", X, ("plus", X, A))
        self.assertEqual(substituted(loop, "x", other), ("loop", "x", other, ("plus", X, A)))
        self.assertEqual(substituted(("loop", "x", A, X), "x", other), ("loop", "x", A, X))
        plan = ("loop", "x", A, ("loop", "y", X, ("plus", Y, A)))
        self.assertEqual(substituted(other=B, name="a", plan=plan), ("loop", "x", B, ("loop", "y", X, ("plus", Y, B))))
        self.assertEqual(plan, ("loop", "x", A, ("loop", "y", X, ("plus", Y, A))))

    def test_with_the_table_itself(self):
        self.assertEqual(substituted(("plus", A, B), "a", ("plus", A, A)), ("plus", ("plus", A, A), B))

    def test_any_plan(self):
        chance = random.Random(6)
        for plan in some_plans(6, 150):
            other = some_plan(chance, 2)
            for name in "abcx":
                tables = tables_of(other)
                taken = loop_by_hand(plan, name, tables)
                if taken:
                    refused(self, NameTaken, {"path": taken[0], "name": taken[1]}, substituted, plan, name, other)
                else:
                    told = substituted(plan, name, other)
                    free = free_by_hand(plan)
                    rest = [table for table in free if table != name]
                    self.assertEqual(sorted(free_by_hand(told)),
                                     sorted(rest + free_by_hand(other) * free.count(name)))

    def test_names_taken(self):
        inner = ("loop", "y", B, ("plus", A, Y))
        plan = ("plus", B, ("loop", "x", A, ("plus", X, inner)))
        refused(self, NameTaken, {"path": (1,), "name": "x"}, substituted, plan, "a", X)
        refused(self, NameTaken, {"path": (1, 1, 1), "name": "y"}, substituted, plan, "a", ("plus", B, Y))
        refused(self, NameTaken, {"path": (1,), "name": "x"}, substituted, plan, "a", ("plus", Y, X))
        self.assertEqual(substituted(plan, "c", ("plus", Y, X)), plan)
        self.assertEqual(substituted(("loop", "x", A, ("plus", X, B)), "a", X), ("loop", "x", X, ("plus", X, B)))

    def test_the_first_loop_in_preorder(self):
        one = ("loop", "y", B, ("plus", Y, A))
        two = ("loop", "x", B, ("plus", X, A))
        refused(self, NameTaken, {"path": (0,), "name": "y"}, substituted, ("plus", one, two), "a", ("plus", X, Y))
        refused(self, NameTaken, {"path": (1,), "name": "x"}, substituted, ("plus", one, two), "a", X)
        refused(self, NameTaken, {"path": (0,), "name": "x"}, substituted, ("plus", two, one), "a", ("plus", X, Y))
        refused(self, NameTaken, {"path": (0, 0), "name": "y"}, substituted,
                ("plus", ("distinct", one), two), "a", ("plus", X, Y))

    def test_own_tables_of_the_other_plan(self):
        other = ("loop", "x", B, X)
        plan = ("loop", "x", B, ("plus", X, A))
        self.assertEqual(substituted(plan, "a", other), ("loop", "x", B, ("plus", X, other)))


def loop_by_hand(plan, name, tables):
    """The path and the name of the first loop whose name is one of the tables, with such a free part in its step."""
    for path, node in parts_by_hand(plan):
        if node[0] == "loop" and node[1] in tables and node[1] != name:
            around = [part[1] for at, part in parts_by_hand(plan)
                      if part[0] == "loop" and path[:len(at) + 1] == at + (1,) and len(at) < len(path)]
            if name not in around and name in free_by_hand(node[3]):
                return path, node[1]
    return None


class Kinds(unittest.TestCase):
    def test_each_kind(self):
        monotone = {"table", "choose", "map", "join", "plus", "distinct", "loop"}
        polynomial = {"table", "choose", "map", "join", "plus", "less"}
        for plan in some_plans(7, 150):
            used = {node[0] for _, node in parts_by_hand(plan)}
            self.assertIs(is_monotone(plan=plan), used <= monotone)
            self.assertIs(is_polynomial(plan=plan), used <= polynomial)

    def test_every_kind_deep_inside(self):
        for node in EVERY_KIND:
            for plan in (node, ("plus", A, ("join", A, node, ())), ("plus", ("choose", node, ()), A)):
                used = {part[0] for _, part in parts_by_hand(node)}
                self.assertIs(is_monotone(plan), not used & {"less", "without", "group", "top"})
                self.assertIs(is_polynomial(plan), not used & {"distinct", "without", "group", "top", "loop"})

    def test_degree(self):
        self.assertEqual(degree(A), 1)
        self.assertEqual(degree(("choose", ("join", A, A, ()), ())), 2)
        self.assertEqual(degree(("map", ("join", A, B, ()), ())), 2)
        three = ("join", ("join", A, B, ()), A, ())
        self.assertEqual(degree(plan=three), 3)
        for kind in ("plus", "less"):
            self.assertEqual(degree((kind, three, A)), 3)
            self.assertEqual(degree((kind, A, three)), 3)
            self.assertEqual(degree(("join", (kind, A, three), three, ())), 6)

    def test_not_polynomial(self):
        for node in EVERY_KIND:
            if node[0] in ("distinct", "without", "group", "top", "loop"):
                refused(self, NotPolynomial, {"path": ()}, degree, node)
                refused(self, NotPolynomial, {"path": (1, 0)}, degree, ("plus", A, ("choose", node, ())))
                refused(self, NotPolynomial, {"path": (0,)}, degree, ("join", node, ("distinct", A), ()))
                refused(self, NotPolynomial, {"path": (0, 1)}, degree, ("less", ("plus", A, node), node))


class Interface(unittest.TestCase):
    def test_defined_in_the_file(self):
        for name in ("width_of", "walk_parts", "part_at", "replaced", "substituted", "tables_of", "is_monotone",
                     "is_polynomial", "degree"):
            self.assertEqual(getattr(plans, name).__module__, "deltamill.plans")


if __name__ == "__main__":
    unittest.main()
