"""Promise 29: clerks, who answer lines about a desk."""

import random
import re
import unittest
from itertools import product

from clearsheets.best import best
from clearsheets.clerks import Clerk
from clearsheets.counted import fewest
from clearsheets.desks import Desk
from clearsheets.rules import of_size
from clearsheets.texts import group_text, rule_text
from tests.plainly import MODES, all_groups, outcome, some_rules
from tests.sessions import run_session
from tests.values import R, any_values, plain_values

SESSION = """
>>> from clearsheets.desks import Desk
>>> from clearsheets.clerks import Clerk
>>> clerk = Clerk(Desk(R, "any"))
>>> [clerk.say(line) for line in ["contrast", "dots", "rule", "unhide 12", "changed", "contrast", "hide 12", "changed", "turn odd", "undo", "show 01"]]
['1/2', '2', 'holders 3 shows 01 02 hides 0 12', 'ok 1', 'more', '1', 'ok 2', 'less', 'ok 3', 'ok 2', 'no BadRule']
"""
WORDS = ("contrast", "dots", "rule", "mode", "changed", "undo")
ACTIONS = ("show", "unshow", "hide", "unhide")
UNKNOWN = ("", " ", "   ", "what", "Contrast", "RULE", "contrasts", "contrast dots", "contrast .", "undo 1",
           "undo undo", "rule 0", "show", "hide", "unshow", "unhide", "turn", "show 01 02", "hide 0 1",
           "turn odd any", "turn any any", "turn  odd  x", "show 10", "hide 00", "show 011", "unshow 20", "unhide 21",
           "show 012345", "hide 0123456789", "show x", "hide -1", "show 0,1", "show +1", "show ..", "show .0",
           "show 0.", "hide (0,)", "01", ".", "any", "odd", "show show", "hide hide", "look 01", "contrast\n",
           "\ncontrast", "contrast\ndots", "undo\n", "\n", "show\n01", "show 01\n", "show \n01", "hide \n 0",
           "show\n 01", "turn", "turn\nodd", "version", "history", "way", "tried", "len", "_answer", "rule,",
           "show 0 ~")


def plain_answer(desk, line):
    """Return what is to be answered, by patterns of whole lines; the desk is edited by its own methods."""
    if not isinstance(line, str):
        return "what"
    found = re.fullmatch(r" *([^ ]+) *", line)
    if found:
        word = found[1]
        if word == "undo":
            return plain_edited(desk.undo)
        top, bottom = best(desk.rule, desk.mode)[0] if desk.rule[1] else (1, 1)
        return {"contrast": f"{top}/{bottom}" if bottom > 1 else f"{top}", "dots": str(fewest(desk.rule, desk.mode)[0]),
                "rule": rule_text(desk.rule), "mode": desk.mode, "changed": desk.changed}.get(word, "what")
    found = re.fullmatch(r" *turn +([^ ]+) *", line)
    if found:
        return plain_edited(desk.turn, found[1])
    found = re.fullmatch(r" *(show|unshow|hide|unhide) +(\.|[0-9]{1,5}) *", line)
    if not found or list(found[2]) != sorted(set(found[2])):
        return "what"
    group = () if found[2] == "." else tuple(int(sign) for sign in found[2])
    return plain_edited(getattr(desk, found[1]), group)


def plain_edited(method, *arguments):
    found = outcome(method, *arguments)
    return f"ok {found[1]}" if found[0] == "returned" else f"no {found[1]}"


def some_line(chance, desk):
    """Return a line, often one that is understood, and often such that something is done."""
    kind = chance.random()
    if kind < 0.1:
        return chance.choice(UNKNOWN)
    if kind < 0.35:
        line = chance.choice(WORDS)
    elif kind < 0.5:
        line = "turn " + chance.choice(("any", "odd", "odd", "any", "even", "01", "turn"))
    else:
        action = chance.choice(ACTIONS)
        some = {"unshow": desk.rule[1], "unhide": desk.rule[2]}.get(action, ())
        if not some or chance.random() < 0.2:
            some = all_groups(desk.rule[0] + 1)
        line = f"{action} {group_text(chance.choice(some))}"
    return with_blanks(chance, line) if chance.random() < 0.5 else line


def with_blanks(chance, line):
    """Return the line with more blanks between its words and at both ends."""
    return " " * chance.randrange(3) + (" " * chance.randint(1, 3)).join(line.split(" ")) + " " * chance.randrange(3)


class SessionTest(unittest.TestCase):

    def test_examples(self):
        run_session(self, SESSION)


class SayTest(unittest.TestCase):

    def check(self, clerk, desk, plain, line):
        """Compare with a desk that stands alike, to which the same is done."""
        wanted = plain_answer(plain, line)
        found = clerk.say(line)
        self.assertIs(type(found), str)
        self.assertEqual(found, wanted, line)
        self.assertEqual((desk.rule, desk.mode, desk.version, desk.changed),
                         (plain.rule, plain.mode, plain.version, plain.changed))
        return found

    def test_lines_drawn_by_chance(self):
        chance = random.Random(91)
        answers = set()
        for holders, mode in product((1, 2, 3), MODES):
            for rule in some_rules(holders, 40) + [of_size(holders, many) for many in range(1, holders + 1)]:
                desk, plain = Desk(rule, mode), Desk(rule, mode)
                clerk = Clerk(desk)
                said = []
                for number in range(chance.choice((20, 80))):
                    line = WORDS[number] if number < len(WORDS) else some_line(chance, desk)
                    said.append((line, self.check(clerk, desk, plain, line)))
                    self.assertEqual(repr(clerk.history), repr(tuple(said[-10:])))
                    answers.add(said[-1][1])
        for wanted in ("no BadRule", "no BadMode", "no NoGroup", "no NothingToUndo", "no Full", "what", "1", "1/2",
                       "more",
                       "less", "same", "any", "odd", "4", "ok 20"):
            self.assertIn(wanted, answers)

    def test_each_kind_of_line(self):
        clerk = Clerk(Desk(R, "any"))
        for line, wanted in [("mode", "any"), ("changed", "same"), ("contrast", "1/2"), ("dots", "2"),
                             ("rule", "holders 3 shows 01 02 hides 0 12"), ("show 012", "ok 1"), ("hide .", "ok 2"),
                             ("unhide .", "ok 3"), ("unshow 02", "ok 4"), ("turn odd", "ok 5"), ("mode", "odd"),
                             ("rule", "holders 3 shows 01 012 hides 0 12"), ("changed", "more"), ("undo", "ok 4"),
                             ("turn any", "ok 5"), ("turn any", "ok 6"), ("changed", "same")]:
            self.assertEqual(clerk.say(line), wanted, line)

    def test_errors(self):
        clerk = Clerk(Desk(R, "any"))
        for line, wanted in [("undo", "no NothingToUndo"), ("show 01", "no BadRule"), ("show .", "no BadRule"),
                             ("show 1", "no BadRule"), ("show 12", "no BadRule"), ("hide 01", "no BadRule"),
                             ("hide 0", "no BadRule"),
                             ("show 3", "no BadRule"), ("hide 9", "no BadRule"), ("show 0123", "no BadRule"),
                             ("show 01234", "no BadRule"), ("unshow 12", "no NoGroup"), ("unshow .", "no NoGroup"),
                             ("unhide 1", "no NoGroup"), ("unhide 56789", "no NoGroup"), ("turn even", "no BadMode"),
                             ("turn 01", "no BadMode"), ("turn turn", "no BadMode"), ("turn Any", "no BadMode"),
                             ("turn any\n", "no BadMode"), ("turn \n", "no BadMode"), ("turn any\nodd", "no BadMode")]:
            self.assertEqual(clerk.say(line), wanted, line)
        self.assertEqual(clerk.say("changed"), "same")

    def test_twenty_edits_in_effect(self):
        desk = Desk(R, "any")
        clerk = Clerk(desk)
        for number in range(20):
            self.assertEqual(clerk.say("turn odd"), f"ok {number + 1}")
        for line in ("turn odd", "turn x", "show 01", "show 9", "unshow .", "hide 0", "unhide 12"):
            self.assertEqual(clerk.say(line), "no Full")
        for line in ("show 10", "turn", "show x"):
            self.assertEqual(clerk.say(line), "what")
        self.assertEqual(clerk.say("undo"), "ok 19")
        self.assertEqual(clerk.say("unhide 12"), "ok 20")

    def test_lines_that_are_none_of_these(self):
        for line in UNKNOWN:
            desk = Desk(R, "any")
            clerk = Clerk(desk)
            self.assertEqual(clerk.say(line), "what", repr(line))
            self.assertEqual(plain_answer(Desk(R, "any"), line), "what")
            self.assertEqual((desk.rule, desk.mode, desk.version, desk.changed), (R, "any", 0, "same"))
            self.assertEqual(clerk.history, ((line, "what"),))

    def test_more_blanks(self):
        chance = random.Random(92)
        for line in WORDS + ("show 012", "unshow 01", "hide 1", "unhide 12", "turn odd", "turn x y", "show 0 1"):
            for _ in range(6):
                other = with_blanks(chance, line)
                one, two = Clerk(Desk(R, "any")), Clerk(Desk(R, "any"))
                self.assertEqual(one.say(other), two.say(line))
                # What was said stands in the history as it was said.
                self.assertEqual(one.history[0][0], other)

    def test_any_value(self):
        desk = Desk(R, "any")
        clerk, said = Clerk(desk), []
        for value in any_values():
            self.assertEqual(clerk.say(value), plain_answer(Desk(R, "any"), value))
            said.append((value if isinstance(value, str) else None, "what"))
            self.assertEqual(repr(clerk.history), repr(tuple(said[-10:])))
        self.assertEqual((desk.rule, desk.version), (R, 0))
        for value in (["mode"], ("mode",), {"mode": "mode"}, b"mode", None):
            self.assertEqual(clerk.say(value), "what")

    def test_very_long_lines(self):
        clerk = Clerk(Desk(R, "any"))
        self.assertEqual(clerk.say(" " * 1400 + "show" + " " * 1500 + "012" + " " * 90), "ok 1")
        self.assertEqual(clerk.say("show " + "0" * 2990), "what")
        self.assertEqual(clerk.say("x" * 3000), "what")
        self.assertEqual(clerk.say("turn " + "x" * 2990), "no BadMode")
        self.assertEqual(clerk.say("mode " * 600), "what")

    def test_contrasts(self):
        for many, mode, wanted in [(3, "any", "1/4"), (3, "odd", "1"), (2, "any", "1/3"), (1, "any", "1"),
                                   (1, "odd", "4/7")]:
            self.assertEqual(Clerk(Desk(of_size(3, many), mode)).say("contrast"), wanted)
        self.assertEqual(Clerk(Desk((3, (), ((0, 1, 2),)), "any")).say("contrast"), "1")

    def test_by_names(self):
        clerk = Clerk(desk=Desk(R, "odd"))
        self.assertEqual(clerk.say(line="mode"), "odd")
        self.assertEqual(clerk.say(line=None), "what")


class HistoryTest(unittest.TestCase):

    def test_at_first(self):
        self.assertEqual(Clerk(Desk(R, "any")).history, ())

    def test_the_last_ten(self):
        clerk = Clerk(Desk(R, "any"))
        said = []
        for number in range(35):
            line = ["mode", "turn odd", None, f"x{number}", "undo", "", (number,)][number % 7]
            said.append((line if isinstance(line, str) else None, clerk.say(line)))
            self.assertEqual(clerk.history, tuple(said[-10:]))
            self.assertEqual(len(clerk.history), min(number + 1, 10))

    def test_it_can_only_be_read(self):
        clerk = Clerk(Desk(R, "any"))
        clerk.say("mode")
        with self.assertRaises(AttributeError):
            clerk.history = ()
        with self.assertRaises(AttributeError):
            del clerk.history
        self.assertEqual(clerk.history, (("mode", "any"),))

    def test_a_history_that_was_told_stays(self):
        clerk = Clerk(Desk(R, "any"))
        clerk.say("mode")
        told = clerk.history
        clerk.say("rule")
        self.assertEqual(told, (("mode", "any"),))
        self.assertEqual(clerk.history, (("mode", "any"), ("rule", "holders 3 shows 01 02 hides 0 12")))


class DesksTest(unittest.TestCase):

    def test_two_clerks_at_one_desk(self):
        desk = Desk(R, "any")
        one, other = Clerk(desk), Clerk(desk)
        self.assertEqual(one.say("turn odd"), "ok 1")
        self.assertEqual(other.say("mode"), "odd")
        self.assertEqual(other.say("unhide 12"), "ok 2")
        self.assertEqual(one.say("changed"), "same")
        self.assertEqual(one.say("undo"), "ok 1")
        self.assertEqual(other.say("rule"), "holders 3 shows 01 02 hides 0 12")
        self.assertEqual(one.history, (("turn odd", "ok 1"), ("changed", "same"), ("undo", "ok 1")))
        self.assertEqual([line for line, _ in other.history], ["mode", "unhide 12", "rule"])

    def test_edits_of_the_desk_itself(self):
        desk = Desk(R, "any")
        clerk = Clerk(desk)
        desk.turn("odd")
        desk.show((0, 1, 2))
        self.assertEqual([clerk.say(line) for line in ("mode", "rule", "undo", "undo", "undo")],
                         ["odd", "holders 3 shows 01 012 02 hides 0 12", "ok 1", "ok 0", "no NothingToUndo"])
        self.assertEqual((desk.version, desk.rule), (0, R))

    def test_clerks_at_other_desks(self):
        one, other = Clerk(Desk(R, "any")), Clerk(Desk(R, "any"))
        one.say("turn odd")
        self.assertEqual((one.say("mode"), other.say("mode")), ("odd", "any"))
        self.assertEqual(other.history, (("mode", "any"),))

    def test_lines_said_within_tried(self):
        desk = Desk(R, "any")
        clerk = Clerk(desk)
        clerk.say("turn odd")

        def ask(same):
            told = [clerk.say(line) for line in ("unhide 12", "changed", "undo", "undo", "undo", "show 012")]
            return told + [same.tried(lambda again: clerk.say("show 2")), clerk.say("mode")]

        told = desk.tried(ask)
        self.assertEqual(told, ["ok 2", "same", "ok 1", "ok 0", "no NothingToUndo", "ok 1", "no BadRule", "any"])
        self.assertEqual((clerk.say("mode"), clerk.say("changed"), desk.version), ("odd", "more", 1))
        # What was said stays said.
        self.assertEqual(len(clerk.history), 10)
        self.assertEqual(clerk.history[:2], (("unhide 12", "ok 2"), ("changed", "same")))
        self.assertEqual(clerk.history[-2:], (("mode", "odd"), ("changed", "more")))

    def test_lines_said_within_tried_that_raises(self):
        desk = Desk(R, "any")
        clerk = Clerk(desk)
        with self.assertRaises(ZeroDivisionError):
            desk.tried(lambda same: clerk.say("turn odd") and 1 // 0)
        self.assertEqual(clerk.history, (("turn odd", "ok 1"),))
        self.assertEqual(clerk.say("mode"), "any")

    def test_what_is_handed_over_stays(self):
        clerk = Clerk(Desk(R, "any"))
        for value in plain_values():
            words = repr(value)
            clerk.say(value)
            self.assertEqual(repr(value), words)


if __name__ == "__main__":
    unittest.main()
