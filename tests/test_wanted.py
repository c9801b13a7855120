"""Wanted changes: points 46 to 48."""

import itertools
import random
import unittest

from deltamill.bags import Bag
from deltamill.errors import NotMonotone, TooMany
from deltamill.plans import tables_of
from deltamill.reader import read
from deltamill.wanted import clash_tree, fitting_changes, settled, shows_clash
from by_hand import dict_of, plan_by_hand
from plan_samples import WIDTHS, fitting_plan, growing_loop, some_tables
from samples import NO_NUMBERS, NO_ROWS, Odd, refused

MONOTONE = ("table", "choose", "map", "join", "join", "plus", "distinct", "loop")
PATHS = read("map[c0,c3](join[1=0](e,e))")
EXAMPLE = [({"e": Bag.of((1, 2), (2, 3))}, [((1, 3), 0, 0), ((1, 4), 1, None)], True)]
OFFERS = [("e", (2, 3), -1), ("e", (2, 4), 1), ("e", (1, 2), -1)]
COPY = ("table", "a")

# Values that are no clash tree, whatever the sightings and offers are.
NO_TREES = NO_ROWS + NO_NUMBERS + (
    ("clash",), ("clash", 0), ("clash", 0, (1,), 0), ["clash", 0, (1,)], ("split",), ("split", None, None),
    ("split", 0, (1,)), ("Clash", 0, (1,)), ("", 0, (1,)), (None, 0, (1,)), (Odd(), 0, (1,)), (b"clash", 0, (1,)),
    ("clash", None, (1,)), ("clash", True, (1,)), ("clash", False, (1,)), ("clash", 0.0, (1,)), ("clash", "0", (1,)),
    ("clash", Odd(), (1,)), ("clash", -1, (1,)), ("clash", 99, (1,)), ("clash", 0, [1]), ("clash", 0, None),
    ("clash", 0, (True,)), ("clash", 0, (1.0,)), ("clash", 0, Odd()), ("clash", 0, "1"), ("clash", 0, 1))


def answer_with(plan, tables, offers):
    made = {name: dict(dict_of(bag)) for name, bag in tables.items()}
    for name, row, count in offers:
        counts = made.setdefault(name, {})
        counts[row] = counts.get(row, 0) + count
    made = {name: {row: count for row, count in counts.items() if count} for name, counts in made.items()}
    return plan_by_hand(plan, {name: made[name] for name in tables_of(plan) if name in made})


def bounds_of(sighting, row):
    for wished, low, high in sighting[1]:
        if wished == row:
            return low, (float("inf") if high is None else high)
    return (-float("inf"), float("inf")) if sighting[2] else (0, 0)


def fits(plan, sightings, some):
    for sighting in sightings:
        bag = answer_with(plan, sighting[0], some)
        for row in set(bag) | {wish[0] for wish in sighting[1]}:
            low, high = bounds_of(sighting, row)
            if not low <= bag.get(row, 0) <= high:
                return False
    return True


def lists_that_fit(plan, sightings, offers, given=()):
    kept = dict(given)
    return [list(some) for many in range(len(offers) + 1) for some in itertools.combinations(offers, many)
            if all((offer in some) == inside for offer, inside in kept.items()) and fits(plan, sightings, some)]


def clashes_at(plan, sightings, inside, undecided):
    """All pairs of an index and a row that clash, ascending."""
    found = []
    for index, sighting in enumerate(sightings):
        low_bag = answer_with(plan, sighting[0], inside + [offer for offer in undecided if offer[2] == -1])
        high_bag = answer_with(plan, sighting[0], inside + [offer for offer in undecided if offer[2] == 1])
        for row in set(low_bag) | set(high_bag) | {wish[0] for wish in sighting[1]}:
            low, high = bounds_of(sighting, row)
            if high_bag.get(row, 0) < low or low_bag.get(row, 0) > high:
                found.append((index, row))
    return sorted(found)


def tree_by_hand(plan, sightings, inside, undecided):
    found = clashes_at(plan, sightings, inside, undecided)
    if found:
        return ("clash",) + found[0]
    out = tree_by_hand(plan, sightings, inside, undecided[1:])
    within = tree_by_hand(plan, sightings, inside + undecided[:1], undecided[1:])
    return ("split", out, within)


def decided(offers, given):
    kept = dict(given)
    return [offer for offer in offers if kept.get(offer)], [offer for offer in offers if offer not in kept]


def some_offers(chance, plan, tables, many):
    """Offers of different tokens; those that take back only rows of all the tables."""
    found = {}
    for _ in range(many):
        name = chance.choice(tables_of(plan))
        common = [row for row, _ in tables[0].get(name, Bag()).pairs()
                  if all(row in other.get(name, Bag()) for other in tables)]
        if common and chance.random() < 0.5:
            found[name, chance.choice(common)] = -1
        else:
            found[name, tuple(chance.randrange(3) for _ in range(WIDTHS[name]))] = 1
    return [key + (count,) for key, count in found.items()]


def some_wishes(chance, plan, bag):
    """Wishes around the counts of a bag."""
    rows = {row: count for row, count in bag.items() if chance.random() < 0.7}
    for _ in range(chance.choice((0, 0, 1))):
        if bag:
            rows[tuple(chance.randrange(3) for _ in min(bag))] = chance.randint(-1, 1)
    wishes = []
    for row, count in rows.items():
        low = count + chance.choice((-1, 0, 0, 0, 0, 1))
        high = chance.choice((None, count, low, low, count + 1, low - chance.choice((0, 0, 0, 1))))
        wishes.append((row, low, high))
    return wishes


def some_problem(chance, offers=5):
    """A monotone plan, sightings and offers; often some lists fit, often none does."""
    while True:
        plan = growing_loop(chance, 2) if chance.random() < 0.2 else fitting_plan(chance, 3, kinds=MONOTONE)[0]
        try:
            fitting_changes(plan, [], [])
        except NotMonotone:
            continue
        tables = [some_tables(chance, many=3, counts=(1, 1, 2)) for _ in range(chance.choice((1, 1, 2, 3)))]
        found = some_offers(chance, plan, tables, offers)
        chosen = [offer for offer in found if chance.random() < 0.5]
        sightings = []
        for one in tables:
            bag = answer_with(plan, one, chosen)
            rest = chance.random() < 0.6
            wishes = some_wishes(chance, plan, bag)
            if not rest and chance.random() < 0.7:
                wishes = [(row, count, count) for row, count in bag.items()]
            sightings.append((one, wishes, rest))
        return plan, sightings, found


class Example(unittest.TestCase):
    def test_example(self):
        self.assertEqual(fitting_changes(plan=PATHS, sightings=EXAMPLE, offers=OFFERS),
                         [("e", (2, 3), -1), ("e", (2, 4), 1)])
        self.assertEqual(settled(plan=PATHS, sightings=EXAMPLE, offers=OFFERS),
                         [(OFFERS[0], "in"), (OFFERS[1], "in"), (OFFERS[2], "out")])
        self.assertEqual(clash_tree(plan=PATHS, sightings=EXAMPLE, offers=OFFERS[:1]), ("clash", 0, (1, 4)))
        self.assertIs(shows_clash(tree=("clash", 0, (1, 4)), plan=PATHS, sightings=EXAMPLE, offers=OFFERS[:1]), True)


class Fitting(unittest.TestCase):
    def wish(self, rows, offers, *wishes, rest=True):
        return fitting_changes(COPY, [({"a": Bag.of(*rows)}, list(wishes), rest)], offers)

    def test_without_sightings(self):
        self.assertEqual(fitting_changes(COPY, [], []), [])
        self.assertEqual(fitting_changes(COPY, [], [("a", (1,), 1)]), [])
        self.assertEqual(settled(COPY, [], [("a", (1,), 1)]), [(("a", (1,), 1), "open")])
        self.assertIsNone(clash_tree(COPY, [], []))
        self.assertEqual(settled(COPY, [], []), [])

    def test_bounds(self):
        one = ("a", (1,), 1)
        self.assertEqual(self.wish([], [one], ((1,), 0, 0)), [])
        self.assertEqual(self.wish([], [one], ((1,), 1, 1)), [one])
        self.assertEqual(self.wish([], [one], ((1,), 1, None)), [one])
        self.assertEqual(self.wish([], [one], ((1,), -5, None)), [])
        self.assertEqual(self.wish([], [one], ((1,), -5, -1)), None)
        self.assertEqual(self.wish([], [one], ((1,), 1, 0)), None)
        self.assertEqual(self.wish([], [one], ((1,), 2, 2)), None)
        self.assertEqual(self.wish([(1,)], [one], ((1,), 2, None)), [one])
        self.assertEqual(self.wish([(1,), (1,)], [("a", (1,), -1)], ((1,), 0, 1)), [("a", (1,), -1)])
        self.assertEqual(self.wish([(1,), (1,)], [("a", (1,), -1)], ((1,), 0, 0)), None)

    def test_the_rest(self):
        offers = [("a", (1,), -1), ("a", (2,), 1)]
        self.assertEqual(self.wish([(1,)], offers, rest=True), [])
        self.assertEqual(self.wish([(1,)], offers, rest=False), [("a", (1,), -1)])
        self.assertEqual(self.wish([(1,)], offers, ((2,), 1, None), rest=False), offers)
        self.assertEqual(self.wish([(1,)], offers, ((2,), 1, None), rest=True), offers[1:])
        self.assertEqual(self.wish([(1,), (3,)], offers, rest=False), None)
        self.assertEqual(self.wish([(1,), (3,)], offers, ((3,), 0, 1), ((1,), 0, 9), rest=False), [])

    def test_the_shortest_and_the_least(self):
        plan = read("map[](join[](a,b))")
        offers = [("b", (5,), 1), ("a", (9,), 1), ("a", (7,), 1), ("b", (4,), 1)]
        self.assertEqual(fitting_changes(plan, [({}, [((), 1, None)], True)], offers), [("a", (7,), 1), ("b", (4,), 1)])
        # A longer list would be less as a list.
        offers = [("c", (1,), 1), ("a", (1,), 1), ("b", (1,), 1)]
        plan = read("map[](plus(c,join[](a,b)))")
        self.assertEqual(fitting_changes(plan, [({}, [((), 1, None)], True)], offers), [("c", (1,), 1)])
        # An offer that takes back comes before one that adds the same.
        self.assertEqual(fitting_changes(read("map[](a)"), [({"a": Bag.of((2,))}, [((), 0, None)], True)], offers), [])

    def test_several_sightings(self):
        offers = [("a", (1,), 1), ("a", (2,), -1)]
        first = ({"a": Bag.of((2,))}, [((1,), 1, 1)], True)
        second = ({"a": Bag.of((2,), (2,))}, [((2,), 0, 1)], True)
        self.assertEqual(fitting_changes(COPY, [first], offers), offers[:1])
        self.assertEqual(fitting_changes(COPY, [first, second], offers), offers)
        self.assertEqual(fitting_changes(COPY, [second, first], offers), offers)
        third = ({"a": Bag.of((2,))}, [((2,), 1, None)], True)
        self.assertIsNone(fitting_changes(COPY, [first, second, third], offers))
        self.assertEqual(clash_tree(COPY, [first, third, second], offers),
                         ("split", ("clash", 0, (1,)), ("split", ("clash", 2, (2,)), ("clash", 1, (2,)))))

    def test_names_that_mean_nothing(self):
        tables = {"a": Bag.of((1,)), "zz": Bag.of((1, 2)), "x": Bag([((), -4)])}
        plan = read("loop[x](a,x)")
        self.assertEqual(fitting_changes(plan, [(tables, [((1,), 1, 1)], False)], [("a", (2,), 1)]), [])

    def test_any_problem(self):
        chance = random.Random(461)
        seen = set()
        for _ in range(250):
            plan, sightings, offers = some_problem(chance)
            lists = lists_that_fit(plan, sightings, offers)
            told = fitting_changes(plan, sightings, offers)
            if not lists:
                self.assertIsNone(told)
                self.assertIsNone(settled(plan, sightings, offers))
                seen.add(None)
                continue
            self.assertEqual(told, min((len(some), sorted(some)) for some in lists)[1], (plan, sightings, offers))
            expected = [(offer, "in" if all(offer in some for some in lists) else
                         "out" if not any(offer in some for some in lists) else "open") for offer in offers]
            self.assertEqual(settled(plan, sightings, offers), expected)
            for offer, word in expected:
                seen.add(word)
                self.assertEqual(clash_tree(plan, sightings, offers, given=((offer, False),)) is None, word != "in")
                self.assertEqual(clash_tree(plan, sightings, offers, given=((offer, True),)) is None, word != "out")
            seen.add(len(told))
        self.assertTrue({None, "in", "out", "open", 0, 1, 2} <= seen, seen)

    def test_eight_offers(self):
        chance = random.Random(462)
        for _ in range(15):
            plan, sightings, offers = some_problem(chance, 8)
            lists = lists_that_fit(plan, sightings, offers)
            expected = min([(len(some), sorted(some)) for some in lists], default=(0, None))[1]
            self.assertEqual(fitting_changes(plan, sightings, offers), expected)

    def test_what_is_passed_and_returned(self):
        sightings, offers = list(EXAMPLE), list(OFFERS)
        fitting_changes(PATHS, sightings, offers).clear()
        settled(PATHS, sightings, offers).clear()
        self.assertEqual((sightings, offers), (EXAMPLE, OFFERS))
        self.assertEqual(sightings[0][0], {"e": Bag.of((1, 2), (2, 3))})
        self.assertEqual(len(fitting_changes(PATHS, sightings, tuple(offers))), 2)


class Trees(unittest.TestCase):
    def check(self, plan, sightings, offers, given=()):
        """The tree, after all that holds for it."""
        told = clash_tree(plan, sightings, offers, given=given)
        if lists_that_fit(plan, sightings, offers, given):
            self.assertIsNone(told)
            return None
        self.assertEqual(told, tree_by_hand(plan, sightings, *decided(offers, given)), (plan, sightings, offers))
        self.assertIs(shows_clash(told, plan, sightings, offers, given=given), True)
        return told

    def test_trees(self):
        offers = [("a", (1,), 1), ("a", (2,), 1)]
        # One of both rows must come, but not both, and the row 3 clashes in no sighting.
        either = ({}, [((), 1, 1)], True)
        plan = read("map[](a)")
        self.assertIsNone(self.check(plan, [either], offers))
        none = [either, ({"a": Bag.of((7,))}, [((), 1, 1)], True)]
        self.assertEqual(self.check(plan, none, offers),
                         ("split", ("split", ("clash", 0, ()), ("clash", 1, ())), ("clash", 1, ())))
        turned = self.check(plan, none[::-1], offers[::-1])
        self.assertEqual(turned, ("split", ("split", ("clash", 1, ()), ("clash", 0, ())), ("clash", 0, ())))

    def test_the_least_clash(self):
        sightings = [({}, [((1,), 0, None)], True), ({}, [((9,), 1, 1), ((2,), 1, 1), ((3,), 1, 1)], True),
                     ({}, [((0,), 1, 1)], True)]
        self.assertEqual(clash_tree(COPY, sightings, []), ("clash", 1, (2,)))
        self.assertEqual(clash_tree(COPY, [({"a": Bag.of((5,), (4,))}, [((6,), 1, 1)], False)], []), ("clash", 0, (4,)))

    def test_any_tree(self):
        chance = random.Random(471)
        shapes = set()
        for _ in range(300):
            plan, sightings, offers = some_problem(chance)
            given = tuple((offer, chance.random() < 0.5)
                          for offer in chance.sample(offers, chance.choice((0, 0, 1, 2)) if len(offers) > 1 else 0))
            told = self.check(plan, sightings, offers, given)
            if told is not None:
                shapes.add((told[0], bool(given)))
                self.check(plan, sightings, offers[::-1], given[::-1])
        self.assertEqual(len(shapes), 4)

    def test_given(self):
        offers = [("a", (1,), 1), ("a", (2,), 1), ("a", (3,), 1)]
        sightings = [({}, [((1,), 1, 1), ((2,), 0, 0)], True)]
        for given in ((), ((offers[0], True),), ((offers[1], False), (offers[0], True)),
                      ((offers[0], True), (offers[1], False), (offers[2], True))):
            self.assertIsNone(self.check(COPY, sightings, offers, given))
        self.assertEqual(self.check(COPY, sightings, offers, ((offers[0], False),)), ("clash", 0, (1,)))
        self.assertEqual(self.check(COPY, sightings, offers, ((offers[2], True), (offers[1], True))),
                         ("clash", 0, (2,)))
        # The first offer is decided only behind the one that is given.
        pair = [({}, [((), 2, 2)], True), ({"a": Bag.of((9,))}, [((), 0, 2)], True)]
        plan = read("map[](a)")
        self.assertEqual(self.check(plan, pair, offers, ((offers[2], False),)),
                         ("split", ("clash", 0, ()), ("split", ("clash", 0, ()), ("clash", 1, ()))))
        self.assertEqual(self.check(plan, pair, offers, ((offers[2], True),)),
                         ("split", ("split", ("clash", 0, ()), ("clash", 1, ())), ("clash", 1, ())))


class Shows(unittest.TestCase):
    SIGHTINGS = [({}, [((), 2, 2)], True), ({"a": Bag.of((9,))}, [((), 0, 2)], True)]
    PLAN = read("map[](a)")
    ALL = [("a", (1,), 1), ("a", (2,), 1), ("a", (3,), 1)]

    def shows(self, tree, offers=2, given=()):
        return shows_clash(tree, self.PLAN, self.SIGHTINGS, self.ALL[:offers], given=given)

    def test_standing_trees(self):
        zero, one = ("clash", 0, ()), ("clash", 1, ())
        self.assertIs(self.shows(("split", zero, ("split", zero, one))), True)
        self.assertIs(self.shows(("split", ("split", zero, zero), ("split", zero, one))), True)
        self.assertIs(self.shows(("split", ("split", zero, zero), ("split", zero, one)), 2), True)
        self.assertIs(self.shows(zero, 1), True)
        self.assertIs(self.shows(zero, 2, ((self.ALL[0], False),)), True)
        self.assertIs(self.shows(one, 2, ((self.ALL[0], True), (self.ALL[1], True))), True)
        self.assertIs(self.shows(("split", zero, one), 2, ((self.ALL[1], True),)), True)

    def test_trees_that_do_not_stand(self):
        zero, one = ("clash", 0, ()), ("clash", 1, ())
        for tree in (zero, one, ("split", zero, one), ("split", zero, zero), ("split", one, ("split", zero, one)),
                     ("split", ("split", zero, one), zero), ("split", zero, ("split", one, zero)),
                     ("split", zero, ("split", zero, zero)), ("split", zero, ("split", one, one)),
                     ("split", zero, ("split", zero, ("split", one, one))),
                     ("split", zero, ("split", zero, ("clash", 2, ()))),
                     ("split", zero, ("split", zero, ("clash", 1, (1,)))),
                     ("split", ("clash", 0, (0,)), ("split", zero, one)),
                     ("split", zero, ("split", zero, one), one), ("split", zero),
                     ["split", zero, ("split", zero, one)], ("split", zero, ["split", zero, one])):
            self.assertIs(self.shows(tree), False, tree)
        # Behind the last offer there is nothing to split.
        self.assertIs(self.shows(("split", zero, zero), 0), False)
        self.assertIs(self.shows(("split", zero, zero), 1), True)
        self.assertIs(self.shows(("split", ("split", zero, zero), zero), 1), False)
        self.assertIs(self.shows(("split", zero, ("split", zero, zero)), 2, ((self.ALL[1], False),)), False)

    def test_values_that_are_no_tree(self):
        sightings = [({}, [((1,), 1, 1)], True)]
        self.assertIs(shows_clash(("clash", 0, (1,)), COPY, sightings, []), True)
        for value in NO_TREES:
            self.assertIs(shows_clash(value, COPY, sightings, []), False, value)
            self.assertIs(shows_clash(("split", value, ("clash", 0, (1,))), COPY, sightings, [("b", (1,), 1)]), False)
            self.assertIs(shows_clash(("split", ("clash", 0, (1,)), value), COPY, sightings, [("b", (1,), 1)]), False)

    def test_rows_and_bounds(self):
        tables = {"a": Bag([((1,), 1), ((2,), 5)])}
        wishes = [((1,), 1, 1), ((2,), 6, None), ((3,), 0, -1), ((4,), -3, 0), ((5,), 1, 0)]
        for rest in (True, False):
            told = [row for row in range(8)
                    if shows_clash(("clash", 0, (row,)), COPY, [(tables, wishes, rest)], [])]
            self.assertEqual(told, [2, 3, 5])
        over = {"a": Bag.of((6,), (1,))}
        self.assertIs(shows_clash(("clash", 0, (6,)), COPY, [(over, wishes, True)], []), False)
        self.assertIs(shows_clash(("clash", 0, (6,)), COPY, [(over, wishes, False)], []), True)
        self.assertIs(shows_clash(("clash", 0, (1, 2)), COPY, [(over, wishes, False)], []), False)

    def test_changed_trees(self):
        # Of all small changes of a tree, just those stand that stand by hand.
        chance = random.Random(481)
        tried = 0
        while tried < 60:
            plan, sightings, offers = some_problem(chance, 4)
            tree = clash_tree(plan, sightings, offers)
            if tree is None or tree[0] == "clash":
                continue
            tried += 1
            for other in changed_trees(tree, len(sightings)):
                self.assertIs(shows_clash(other, plan, sightings, offers),
                              stands_by_hand(other, plan, sightings, [], list(offers)))


def changed_trees(tree, many):
    """Trees that differ from the tree at one node."""
    if tree[0] == "clash":
        for index in range(-1, many + 1):
            yield ("clash", index, tree[2])
        yield ("clash", tree[1], tree[2] + (0,))
        yield ("clash", tree[1], tuple(number + 1 for number in tree[2]))
        yield ("split", tree, tree)
        return
    yield tree[1]
    yield tree[2]
    yield ("split", tree[2], tree[1])
    for place in (1, 2):
        for other in changed_trees(tree[place], many):
            yield tree[:place] + (other,) + tree[place + 1:]


def stands_by_hand(tree, plan, sightings, inside, undecided):
    if tree[0] == "clash":
        return tree[1:] in clashes_at(plan, sightings, inside, undecided)
    return bool(undecided) and stands_by_hand(tree[1], plan, sightings, inside, undecided[1:]) \
        and stands_by_hand(tree[2], plan, sightings, inside + undecided[:1], undecided[1:])


class Refusals(unittest.TestCase):
    def calls(self, plan, offers):
        yield fitting_changes, (plan, [], offers)
        yield settled, (plan, [], offers)
        yield clash_tree, (plan, [], offers)
        for tree in (None, ("clash", 0, (1,)), ("split", 1, 2)):
            yield shows_clash, (tree, plan, [], offers)

    def test_not_monotone(self):
        nine = [("a", (number,), 1) for number in range(9)]
        for text, path in (("less(a,a)", ()), ("distinct(group[;count](a))", (0,)), ("plus(a,top[;1](a))", (1,)),
                           ("join[](map[](without[](a,a)),less(a,a))", (0, 0)), ("loop[x](a,without[](x,a))", (1,))):
            for offers in ([], nine):
                for call, given in self.calls(read(text), offers):
                    refused(self, NotMonotone, {"path": path}, call, *given)

    def test_too_many(self):
        offers = [("a", (number,), 1) for number in range(9)]
        for call, given in self.calls(COPY, offers):
            refused(self, TooMany, {"limit": 8}, call, *given)
        for call in (clash_tree, fitting_changes, settled):
            call(COPY, [], offers[:8])
        refused(self, TooMany, {"limit": 8}, clash_tree, COPY, None, offers, given=None)
        refused(self, TooMany, {"limit": 8}, shows_clash, None, COPY, None, offers, given=None)
        refused(self, NotMonotone, {"path": ()}, shows_clash, None, read("less(a,a)"), None, None, given=None)


if __name__ == "__main__":
    unittest.main()
