"""Desks and first_wrong: points 56 to 58."""

import random
import unittest

from deltamill.desk import Desk, first_wrong
from deltamill.errors import BadAxes, BadDepth, NoColumn, Refused
from deltamill.mill import Mill
from deltamill.reader import read
from samples import NO_NUMBERS, refused

WIDTHS = {"a": 1, "b": 2, "e": 0}
PLANS = {"all": read("distinct(a)"), "b": read("plus(b,b)"), "refused": read("a"), "e": read("join[](e,a)")}

# Lines that are ill written; the mill of the tests has two axes.
BAD_LINES = (
    "", " ", "  ", "x", "Tell a (1) 1 (0,0)", "tells a (1) 1 (0,0)", "undo ", " undo", "undo undo", "undo 1", "redo 1",
    "redo  ", "UNDO", "ask", "ask all", "ask all ", "ask  all (0,0)", "ask all (0,0) ", " ask all (0,0)",
    "ask all (0,0) (0,0)", "ask all 0,0", "ask all (0,0", "ask all 0,0)", "ask all ((0,0))", "ask all (0, 0)",
    "ask all (0,,0)", "ask all (,0)", "ask all (0,)", "ask all (,)", "ask all (a,0)", "ask all (00,0)",
    "ask all (01,0)", "ask all (-0,0)", "ask all (+1,0)", "ask all (1.0,0)", "ask all (0x1,0)", "ask all (1_0,0)",
    "ask all (--1,0)", "ask all (-,0)", "ask all [0,0]", "ask all (", "ask all )", "ask all ()(", "ask all )(",
    "ask all (0,0);", "ask all 10,0)", "ask all (0,01", "ask all 1)", "ask all (1", "tell a x5) 1 (0,0)",
    "tell a (55 1 (0,0)", "tell a ) 1 (0,0)", "tell a ( 1 (0,0)", "close (1,11", "close 11,1)", "ask all (" + "1" * 41 + ",0)", "ask all (-" + "1" * 41 + ",0)",
    "tell", "tell a", "tell a (1)", "tell a (1) 1", "tell a (1) 1 (0,0) (0,0)", "tell a (1) 1 (0,0) for b",
    "tell a 1 1 (0,0)", "tell a (1) (1) (0,0)", "tell a (1) 1 0,0", "tell a (1) 01 (0,0)", "tell a (1) -0 (0,0)",
    "tell a (1) +1 (0,0)", "tell a (1) - (0,0)", "tell a (1) 1.0 (0,0)", "tell a (1) " + "9" * 41 + " (0,0)",
    "tell  (1) 1 (0,0)", "tell a (1)  1 (0,0)", "tell a  (1) 1 (0,0)", "tell a (01) 1 (0,0)", "tell a (x) 1 (0,0)",
    "tell (1) 1 (0,0)", "tell a (1) one (0,0)", "tell a (1,) 1 (0,0)",
    "close ", "close for", "close (1,1) for", "close (1,1)  for a", "close for ", "close a", "close (1,1) a",
    "close a for (1,1)", "close (1,1),(2,2)", "close (1,1", "close (01,1)", "close for (1,1) ", "close  (1,1)",
    "close FOR a", "forget for", "forget (1,1) for", "forget all", "forget (1,1) all", "forget (1;1)", "forget ",
    "forget (1,1) for ", "forget (1,1) (a)", "tell a (1) 1 (0,0)\n", "ask all (0,0)\t")


def desk(**named):
    return Desk(2, WIDTHS, PLANS, **named)


def replies(made, *lines):
    return [made.run(line) for line in lines]


def state(made):
    """All that a desk shows without a change of what it holds."""
    asked = [(output, moment) for output in sorted(PLANS) for moment in ("(0,0)", "(1,1)", "(3,3)")]
    log = made.log()
    told = [made.run(f"ask {output} {moment}") for output, moment in asked]
    return made.depth, log, told


def walked(made):
    """The replies of a walk back to the beginning and forth again to the end: what can be taken back and done again."""
    told = []
    for word in ("undo", "redo"):
        while True:
            told.append((made.run(word), state(made)[2]))
            if told[-1][0] != "ok":
                break
    return told


class Example(unittest.TestCase):
    def test_example(self):
        made = Desk(1, {"a": 1}, {"all": read("distinct(a)")}, keep=1)
        told = made.attempt(["tell a (7) 1 (0)", "close (1)", "ask all (0)"])
        self.assertEqual([told, made.run("tell a (8) 1 (0)"), made.run("undo"), made.run("undo"),
                          made.run("ask all (0)")],
                         [["all (7) 1 (0)", "all (7) 1 (0)", "(7)*1"], "refused TooLate", "ok",
                          "refused NothingToUndo", "refused StillOpen"])


class Lines(unittest.TestCase):
    def test_tell(self):
        made = desk()
        self.assertEqual(made.run("tell b (1,-2) 3 (0,1)"), "b (1,-2) 6 (0,1)")
        self.assertEqual(made.run("tell a (-5) 2 (1,0)"), "all (-5) 1 (1,0); refused (-5) 2 (1,0)")
        self.assertEqual(made.run("tell e () -1 (0,2)"), "e (-5) -2 (1,2)")
        self.assertEqual(made.run("tell a (-5) 1 (1,0)"), "e (-5) -1 (1,2); refused (-5) 1 (1,0)")
        self.assertEqual(made.run("tell a (-5) 0 (1,0)"), "nothing")
        self.assertEqual(made.run("tell e () 0 (0,0)"), "nothing")
        great = "9" * 40
        self.assertEqual(made.run(f"tell b (-{great},{great}) -{great} ({great},0)"),
                         f"b (-{great},{great}) -{2 * int(great)} ({great},0)")

    def test_close(self):
        made = desk()
        replies(made, "tell a (1) 1 (0,0)", "tell a (2) 2 (3,0)", "tell b (1,2) 1 (0,3)")
        self.assertEqual(made.run("close (1,1) for a a"), "all (1) 1 (0,0); all (2) 1 (3,0); refused (1) 1 (0,0); "
                                                          "refused (2) 2 (3,0)")
        self.assertEqual(made.run("close (2,0) (0,2) for b"), "nothing")
        self.assertEqual(made.run("close (5,5) (0,3)"), "refused NotAdvanced")
        self.assertEqual(made.run("close (5,5) (2,2)"), "b (1,2) 2 (0,3)")
        self.assertEqual(made.run("close for b"), "nothing")
        self.assertEqual(made.run("close"), "nothing")
        self.assertEqual(replies(made, "tell a (1) 1 (9,9)", "close (9,9)", "close"),
                         ["refused TooLate", "refused NotAdvanced", "nothing"])

    def test_forget(self):
        made = desk()
        replies(made, "tell a (1) 1 (0,0)", "close (2,2)")
        self.assertEqual(replies(made, "forget (1,1) for all", "ask all (0,1)", "ask refused (0,1)"),
                         ["ok", "refused Forgotten", "(1)*1"])
        self.assertEqual(replies(made, "forget (1,2) (2,1)", "ask refused (1,1)", "ask refused (1,2)"),
                         ["ok", "refused Forgotten", "(1)*1"])
        self.assertEqual(made.run("forget"), "refused StillOpen")
        self.assertEqual(replies(made, "close", "forget", "forget for all b", "forget (0,0)"),
                         ["nothing", "ok", "ok", "refused NotAdvanced"])

    def test_ask(self):
        made = desk()
        replies(made, "tell b (10,0) 1 (0,0)", "tell b (9,-1) -2 (0,0)", "tell b (9,5) 1 (1,0)", "tell a (1) 1 (0,0)",
                "tell e () 1 (0,0)", "close (1,0) (0,5)")
        self.assertEqual(made.run("ask b (0,0)"), "(9,-1)*-4 (10,0)*2")
        self.assertEqual(made.run("ask e (0,4)"), "(1)*1")
        self.assertEqual(made.run("ask b (1,0)"), "refused StillOpen")
        self.assertEqual(desk().run("ask all (0,0)"), "refused StillOpen")
        other = desk()
        self.assertEqual(replies(other, "close", "ask all (7,7)"), ["nothing", "empty"])
        rows = Desk(1, {"e": 0}, {"e": read("e")})
        self.assertEqual(replies(rows, "tell e () -3 (0)", "close", "ask e (0)"), ["e () -3 (0)", "e () -3 (0)", "()*-3"])

    def test_refusals_of_the_mill(self):
        made = desk()
        replies(made, "close (2,2) for a", "tell b (1,1) 1 (0,0)")
        for line, error in (
                ("tell none (1,1) 1 (0)", "NoTable"), ("tell all (1) 1 (0,0)", "NoTable"),
                ("tell a (1,1) 1 (0)", "BadMoment"), ("tell a (1,1) 1 ()", "BadMoment"),
                ("tell a (1,1) 1 (0,-1)", "BadMoment"), ("tell a (1,1) 1 (0,0)", "BadRow"),
                ("tell a () 1 (0,0)", "BadRow"), ("tell a (1) 1 (0,0)", "TooLate"),
                ("tell (1) (1) 1 (0,0)", "NoTable"), ("tell for (1) 1 (0,0)", "NoTable"),
                ("close (1) for none", "BadMoment"), ("close (1,1) (-1,1) for none", "BadMoment"),
                ("close (0,0) for a none", "NoTable"), ("close (0,0) for for", "NoTable"),
                ("close (0,0) for a for", "NoTable"), ("close for all", "NoTable"), ("close for (1,1)", "NoTable"),
                ("close (0,0)", "NotAdvanced"), ("close () for a", "BadMoment"),
                ("forget (1) for none", "BadMoment"), ("forget (1,1) for none", "NoOutput"),
                ("forget (1,1) for a", "NoOutput"), ("forget (0,1)", "StillOpen"), ("forget for for", "NoOutput"),
                ("ask none (0)", "NoOutput"), ("ask a (0,0)", "NoOutput"), ("ask all (0)", "BadMoment"),
                ("ask all ()", "BadMoment"), ("ask all (0,-1)", "BadMoment"), ("ask all (2,2)", "StillOpen"),
                ("ask for (0,0)", "NoOutput"), ("undo", None), ("redo", None), ("redo", "NothingToRedo")):
            self.assertEqual(made.run(line), "ok" if error is None else f"refused {error}", line)

    def test_bad_lines(self):
        made = desk()
        made.run("tell a (1) 1 (0,0)")
        for line in BAD_LINES:
            self.assertEqual(made.run(line), "refused BadLine", line)
        self.assertEqual(made.log()[1:], [(line, "refused BadLine") for line in BAD_LINES])
        self.assertEqual(replies(made, "undo", "undo", "redo", "redo"),
                         ["ok", "refused NothingToUndo", "ok", "refused NothingToRedo"])

    def test_numbers_of_forty_digits(self):
        number = "1" * 40
        made = desk()
        self.assertEqual(made.run(f"tell a (-{number}) -{number} (0,{number})"), f"refused (-{number}) -{number} "
                                                                              f"(0,{number})")
        self.assertEqual(made.run(f"close ({number}0,0)"), "refused BadLine")

    def test_an_output_called_refused(self):
        made = desk()
        self.assertEqual(made.attempt(["tell a (1) -1 (0,0)", "close"]),
                         ["refused (1) -1 (0,0)", "refused (1) -1 (0,0)"])
        self.assertEqual(made.run("undo"), "ok")


class Back(unittest.TestCase):
    def test_undo_and_redo(self):
        made = desk()
        lines = ["tell a (1) 1 (0,0)", "tell a (2) 1 (0,0)", "close (1,1)", "forget (1,0)", "tell a (3) 1 (1,1)"]
        self.assertEqual(replies(made, "undo", "redo"), ["refused NothingToUndo", "refused NothingToRedo"])
        states = [state(made)[2]]
        first = []
        for line in lines:
            first.append(made.run(line))
            states.append(state(made)[2])
        for turn in range(3):
            for at in range(len(lines), 0, -1):
                self.assertEqual(state(made)[2], states[at])
                self.assertEqual(made.run("undo"), "ok")
            self.assertEqual(replies(made, "undo", "undo"), ["refused NothingToUndo"] * 2)
            for at in range(len(lines)):
                self.assertEqual(state(made)[2], states[at])
                self.assertEqual(made.run("redo"), "ok")
            self.assertEqual(made.run("redo"), "refused NothingToRedo")
        replies(made, *["undo"] * 5)
        self.assertEqual(replies(made, *lines), first)

    def test_what_a_new_line_ends(self):
        for line in ("tell a (5) 1 (0,0)", "tell a (5) 0 (0,0)", "close (0,0)", "close (0,0) for e", "forget (0,0)"):
            made = desk()
            replies(made, "tell a (1) 1 (0,0)", "tell a (2) 1 (0,0)", "undo")
            self.assertNotIn("refused T", made.run(line))
            self.assertEqual(replies(made, "redo", "undo", "redo", "redo", "undo", "undo", "undo"),
                             ["refused NothingToRedo", "ok", "ok", "refused NothingToRedo", "ok", "ok",
                              "refused NothingToUndo"])

    def test_what_other_lines_leave(self):
        made = desk()
        replies(made, "tell a (1) 1 (0,0)", "close (5,5)", "tell a (2) 1 (5,5)", "undo", "undo")
        for line in ("ask all (0,0)", "tell a (2) 1 (0)", "tell none (2) 1 (0,0)", "close (0,0) for none", "what",
                     "forget (9,9)", "undo ", "ask all", "tell a (2)"):
            made.run(line)
        self.assertEqual(replies(made, "redo", "redo", "redo", "undo", "undo", "undo", "undo"),
                         ["ok", "ok", "refused NothingToRedo", "ok", "ok", "ok", "refused NothingToUndo"])

    def test_a_tell_that_tells_nothing(self):
        made = desk()
        self.assertEqual(replies(made, "tell e () 1 (0,0)", "tell a (1) 0 (0,0)", "undo", "tell a (7) 1 (0,0)"),
                         ["nothing", "nothing", "ok", "all (7) 1 (0,0); e (7) 1 (0,0); refused (7) 1 (0,0)"])
        self.assertEqual(replies(made, "undo", "undo", "undo"), ["ok", "ok", "refused NothingToUndo"])

    def test_in_turn(self):
        made = desk()
        replies(made, "tell a (1) 1 (0,0)", "tell a (2) 1 (0,0)", "tell a (3) 1 (0,0)")
        self.assertEqual(replies(made, "undo", "undo", "redo", "undo", "redo", "redo", "redo", "undo"),
                         ["ok"] * 6 + ["refused NothingToRedo", "ok"])
        self.assertEqual(replies(made, "close", "ask all (0,0)"),
                         ["all (1) 1 (0,0); all (2) 1 (0,0); refused (1) 1 (0,0); refused (2) 1 (0,0)", "(1)*1 (2)*1"])


class Depth(unittest.TestCase):
    def test_the_bound(self):
        for keep in (0, 1, 2, 5, 100):
            made = desk(keep=keep)
            self.assertEqual(made.depth, keep)
            for _ in range(keep + 3):
                made.run("tell a (1) 1 (0,0)")
            for _ in range(2):
                self.assertEqual(replies(made, *["undo"] * (keep + 1)), ["ok"] * keep + ["refused NothingToUndo"])
                self.assertEqual(replies(made, *["redo"] * (keep + 1)), ["ok"] * keep + ["refused NothingToRedo"])
        self.assertEqual((desk().depth, Desk.MOST, desk().MOST), (20, 100, 100))
        made = desk()
        replies(made, *["close (0,0)"] * 25)
        self.assertEqual(replies(made, *["undo"] * 21), ["ok"] * 20 + ["refused NothingToUndo"])

    def test_smaller_and_greater(self):
        made = desk(keep=3)
        lines = [f"tell a ({number}) 1 (0,0)" for number in range(5)]
        replies(made, *lines)
        made.depth = 2
        made.depth = 10
        self.assertEqual(made.depth, 10)
        self.assertEqual(replies(made, "undo", "undo", "undo"), ["ok", "ok", "refused NothingToUndo"])
        self.assertEqual(replies(made, "redo", "redo", "redo"), ["ok", "ok", "refused NothingToRedo"])
        replies(made, *lines)
        self.assertEqual(replies(made, *["undo"] * 8), ["ok"] * 7 + ["refused NothingToUndo"])

    def test_what_can_be_done_again_stays(self):
        made = desk(keep=5)
        replies(made, *["tell a (1) 1 (0,0)"] * 5)
        replies(made, *["undo"] * 4)
        self.assertIsNone(made.change_depth(2))
        self.assertEqual(replies(made, *["redo"] * 5), ["ok"] * 4 + ["refused NothingToRedo"])
        self.assertEqual(replies(made, *["undo"] * 3), ["ok"] * 2 + ["refused NothingToUndo"])
        made.change_depth(value=0)
        self.assertEqual(made.depth, 0)
        self.assertEqual(replies(made, "undo", "redo", "undo", "redo", "redo"),
                         ["refused NothingToUndo", "ok", "refused NothingToUndo", "ok", "refused NothingToRedo"])
        self.assertEqual(replies(made, "close", "ask refused (0,0)"), ["all (1) 1 (0,0); refused (1) 5 (0,0)", "(1)*5"])

    def test_a_depth_that_is_not_smaller(self):
        made = desk(keep=2)
        replies(made, "close (0,0)", "close (0,0)")
        made.depth = 2
        made.depth = 3
        self.assertEqual(replies(made, *["undo"] * 3), ["ok", "ok", "refused NothingToUndo"])

    def test_refusals(self):
        for value in (-1, 101, 10 ** 39) + NO_NUMBERS:
            refused(self, BadDepth, {"value": value}, desk, keep=value)
            made = desk(keep=3)
            made.run("close (0,0)")
            refused(self, BadDepth, {"value": value}, made.change_depth, value)
            refused(self, BadDepth, {"value": value}, setattr, made, "depth", value)
            self.assertEqual((made.depth, made.run("undo")), (3, "ok"))
        # The errors of the mill come first.
        refused(self, BadAxes, {"value": 4}, Desk, 4, WIDTHS, PLANS, keep=None)
        refused(self, NoColumn, {"path": (), "column": 1}, Desk, 1, {"a": 1}, {"x": read("map[c1](a)")}, keep=101)
        refused(self, BadAxes, {"value": True}, first_wrong, True, WIDTHS, PLANS, [], keep=None)
        refused(self, BadDepth, {"value": 101}, first_wrong, 1, WIDTHS, PLANS, [], keep=101)


class Log(unittest.TestCase):
    def test_all_lines(self):
        made = desk()
        self.assertEqual(made.log(), [])
        lines = ["tell a (1) 1 (0,0)", "what", "undo", "undo", "redo", "ask all (0,0)", "close"]
        told = replies(made, *lines)
        self.assertEqual(made.log(), list(zip(lines, told)))
        self.assertEqual(made.attempt(["ask all (0,0)", "undo"]), ["(1)*1", "ok"])
        self.assertEqual(made.log()[7:], [("ask all (0,0)", "(1)*1"), ("undo", "ok")])
        self.assertTrue(all(isinstance(pair, tuple) for pair in made.log()))

    def test_what_is_returned(self):
        made = desk()
        made.run("undo")
        made.log().clear()
        self.assertEqual(made.log(), [("undo", "refused NothingToUndo")])


class Attempt(unittest.TestCase):
    def test_all(self):
        made = desk()
        self.assertEqual(made.attempt([]), [])
        self.assertEqual(made.attempt(lines=("tell a (1) 1 (0,0)", "undo", "redo", "close", "ask all (0,0)")),
                         ["all (1) 1 (0,0); refused (1) 1 (0,0)", "ok", "ok", "all (1) 1 (0,0); refused (1) 1 (0,0)",
                          "(1)*1"])
        self.assertEqual(len(made.log()), 5)
        self.assertEqual(replies(made, "undo", "undo", "undo"), ["ok", "ok", "refused NothingToUndo"])

    def test_none(self):
        made = desk()
        replies(made, "tell a (1) 1 (0,0)", "tell a (2) 1 (0,0)", "close (2,2)", "undo")
        for lines, index, reply in (
                (["ask"], 0, "refused BadLine"),
                (["tell a (9) 1 (0,0)", "tell none (9) 1 (0,0)", "what"], 1, "refused NoTable"),
                (["undo", "undo", "tell a (9) 1 (0,0)", "undo", "undo"], 4, "refused NothingToUndo"),
                (["redo", "redo"], 1, "refused NothingToRedo"),
                (["undo", "redo", "redo", "forget (1,1)", "close", "forget", "ask all (9,9)"], 6, "refused Forgotten"),
                (["tell a (9) 1 (0,0)", "redo"], 1, "refused NothingToRedo"),
                (["redo", "tell a (9) 1 (1,1)"], 1, "refused TooLate")):
            before = made.log()
            asked = state(made)[2]
            log = made.log()
            refused(self, Refused, {"index": index, "reply": reply}, made.attempt, lines)
            self.assertEqual(made.log(), log)
            self.assertEqual(log[:len(before)], before)
            self.assertEqual(state(made)[2], asked)
            # What can be taken back and done again is the same as before.
            self.assertEqual(replies(made, "redo", "redo", "undo", "undo", "undo", "undo", "redo", "redo"),
                             ["ok", "refused NothingToRedo", "ok", "ok", "ok", "refused NothingToUndo", "ok", "ok"])

    def test_any_lines(self):
        # A desk with refused attempts in between is the same as one without.
        chance = random.Random(571)
        tried = 0
        for _ in range(25):
            made, other = desk(keep=3), desk(keep=3)
            for _ in range(10):
                lines = [some_line(chance) for _ in range(chance.randint(1, 5))]
                try:
                    told = made.attempt(lines)
                except Refused as error:
                    tried += error.index > 1
                else:
                    self.assertEqual(told, replies(other, *lines))
                self.assertEqual(made.log(), other.log())
                line = some_line(chance)
                self.assertEqual(made.run(line), other.run(line))
            self.assertEqual(walked(made), walked(other))
        self.assertGreater(tried, 10)

    def test_the_argument(self):
        lines = ["undo"]
        refused(self, Refused, {"index": 0, "reply": "refused NothingToUndo"}, desk().attempt, lines)
        self.assertEqual(lines, ["undo"])


def some_line(chance):
    moment = f"({chance.randint(0, 2)},{chance.randint(0, 2)})"
    return chance.choice((
        f"tell a ({chance.randint(0, 2)}) {chance.choice((1, 1, -1))} {moment}", f"tell b (1,2) 1 {moment}",
        f"tell e () 1 {moment}", f"close {moment}", f"close {moment} for a", f"close {moment} for e b",
        f"forget {moment}", f"forget {moment} for all", f"ask all {moment}", f"ask e {moment}", f"ask b {moment}",
        "undo", "undo", "redo", "redo", "what"))


class AsTheMill(unittest.TestCase):
    def test_any_lines(self):
        # A desk replies as mills do that are kept for each line.
        chance = random.Random(572)
        for _ in range(30):
            keep = chance.randint(0, 4)
            made, mill, before, behind = desk(keep=keep), Mill(2, WIDTHS, PLANS), [], []
            for _ in range(25):
                line = some_line(chance)
                told = made.run(line)
                if line == "what":
                    expected = "refused BadLine"
                elif line == "undo":
                    expected = "ok" if before else "refused NothingToUndo"
                    if before:
                        behind.append(mill)
                        mill = before.pop()
                elif line == "redo":
                    expected = "ok" if behind else "refused NothingToRedo"
                    if behind:
                        before.append(mill)
                        mill = behind.pop()
                else:
                    twin = mill.twin()
                    expected = by_mill(twin, line)
                    if not line.startswith("ask") and not told.startswith("refused N") \
                            and not told.startswith("refused S") and not told.startswith("refused T"):
                        before.append(mill)
                        mill, behind = twin, []
                before = before[len(before) - keep:] if len(before) > keep else before
                self.assertEqual(told, expected, line)


def by_mill(mill, line):
    """The reply of a mill to a line that is well written."""
    words = line.split(" ")

    def row(text):
        return tuple(int(number) for number in text[1:-1].split(",") if number)

    def texts(changes):
        def show(values):
            return "(" + ",".join(map(str, values)) + ")"
        return "; ".join(f"{name} {show(values)} {count} {show(at)}" for name, at, values, count in changes) or "nothing"

    try:
        if words[0] == "tell":
            return texts(mill.tell([(words[1], row(words[4]), row(words[2]), int(words[3]))]))
        if words[0] == "ask":
            pairs = mill.answer(words[1], row(words[2])).pairs()
            return " ".join(f"({','.join(map(str, values))})*{count}" for values, count in pairs) or "empty"
        names = words[words.index("for") + 1:] if "for" in words else []
        if words[0] == "close":
            return texts(mill.close([row(words[1])], *names))
        mill.forget([row(words[1])], *names)
        return "ok"
    except ValueError as error:
        return f"refused {type(error).__name__}"


class FirstWrong(unittest.TestCase):
    def setUp(self):
        made = desk(keep=1)
        replies(made, "tell a (1) 1 (0,0)", "tell a (2) 1 (0,0)", "undo", "undo", "what", "close (1,1)",
                "ask all (0,0)")
        self.log = made.log()

    def test_none(self):
        self.assertIsNone(first_wrong(axes=2, widths=WIDTHS, plans=PLANS, log=self.log, keep=1))
        self.assertIsNone(first_wrong(2, WIDTHS, PLANS, []))

    def test_the_first(self):
        for index in range(len(self.log)):
            for reply in ("", "x", self.log[index][1] + " "):
                log = list(self.log)
                log[index] = (log[index][0], reply)
                log.append(("undo", "x"))
                self.assertEqual(first_wrong(2, WIDTHS, PLANS, log, keep=1), index)
        self.assertEqual(first_wrong(2, WIDTHS, PLANS, [("undo", "ok")]), 0)

    def test_another_keep(self):
        self.assertEqual(self.log[3][1], "refused NothingToUndo")
        self.assertEqual(first_wrong(2, WIDTHS, PLANS, self.log), 3)
        self.assertEqual(first_wrong(2, WIDTHS, PLANS, self.log, keep=0), 2)
        self.assertEqual(first_wrong(2, WIDTHS, PLANS, self.log, keep=100), 3)

    def test_the_default_depth(self):
        made = desk()
        replies(made, *["close (0,0)"] * 22)
        replies(made, *["undo"] * 21)
        self.assertIsNone(first_wrong(2, WIDTHS, PLANS, made.log()))
        self.assertIsNone(first_wrong(2, WIDTHS, PLANS, made.log(), keep=20))
        self.assertEqual(first_wrong(2, WIDTHS, PLANS, made.log(), keep=21), 42)

    def test_another_mill(self):
        self.assertEqual(first_wrong(2, WIDTHS, dict(PLANS, all=read("a")), self.log, keep=1), None)
        self.assertEqual(first_wrong(2, WIDTHS, dict(PLANS, all=read("plus(a,a)")), self.log, keep=1), 0)

    def test_what_is_passed(self):
        log = list(self.log)
        first_wrong(2, WIDTHS, PLANS, log, keep=1)
        self.assertEqual(log, self.log)


if __name__ == "__main__":
    unittest.main()
