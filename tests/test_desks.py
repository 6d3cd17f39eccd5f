"""Promises 25, 26 and 27: desks; promise 2 (g)."""

import random
import unittest
from fractions import Fraction
from itertools import product

from clearsheets.best import best
from clearsheets.clerks import Clerk
from clearsheets.counted import fewest
from clearsheets.desks import Desk
from clearsheets.errors import BadMode, BadRule, Full, NoGroup, NothingToUndo, TooMany
from clearsheets.rules import of_size, rule_error
from tests.plainly import (MODES, all_groups, is_plain_group, near_rules, outcome, plain_keeps, some_rules)
from tests.values import R, any_values, plain_values

FEW = (1, 2, 3)
METHODS = ("show", "unshow", "hide", "unhide")
WRONG = (None, True, False, 0, "", "01", [], [0], {}, (3,), (-1,), (1, 0), (0, 0), (True,), (False,), (0, True),
         ((0,),), ([0],), (None,), ("0",), (0, 1, 2, 3))


def state(desk):
    """Return all that a desk tells of how it stands."""
    return (desk.rule, desk.mode, desk.version, desk.changed, desk.contrast(), desk.way(), len(desk), str(desk))


def plain_contrast(rule, mode):
    return Fraction(*best(rule, mode)[0]) if rule[1] else Fraction(1)


class PlainDesk:
    """What a desk is to tell, with each edit as a copy of all that stood."""

    def __init__(self, rule, mode):
        self.stood = [(rule, mode)]
        self.changed = "same"

    def stand(self, stood):
        before, after = plain_contrast(*self.stood[-1]), plain_contrast(*stood[-1])
        self.stood = stood
        self.changed = "more" if after > before else "less" if after < before else "same"
        return len(stood) - 1

    def edit(self, name, value):
        """Return what the method returns or raises, as outcome does."""
        rule, mode = self.stood[-1]
        if len(self.stood) == 21:
            return ("raised", "Full", {})
        if name == "turn":
            if type(value) is not str or value not in MODES:
                return ("raised", "BadMode", {"value": value})
            return ("returned", self.stand(self.stood + [(rule, value)]))
        at = 1 if "show" in name else 2
        some = list(rule[at])
        known = is_plain_group(rule[0], value)
        if name in ("unshow", "unhide"):
            if not known or value not in some:
                return ("raised", "NoGroup", {"group": value})
            some.remove(value)
        else:
            if not known:
                return ("raised", "BadRule", {"number": None, "word": "group"})
            if value in some:
                return ("raised", "BadRule", {"number": None, "word": "twice"})
            some.append(value)
        other = list(rule)
        other[at] = tuple(sorted(some))
        if rule_error(tuple(other)) is not None:
            return ("raised", "BadRule", {"number": None, "word": "barred"})
        return ("returned", self.stand(self.stood + [(tuple(other), mode)]))

    def undo(self):
        if len(self.stood) == 1:
            return ("raised", "NothingToUndo", {})
        return ("returned", self.stand(self.stood[:-1]))


def some_edit(chance, desk):
    """Return a method's name and what to hand it, often such that it is done."""
    name = chance.choice(METHODS + ("show", "hide", "turn"))
    every = all_groups(desk.rule[0])
    if name == "turn":
        return (name, chance.choice(MODES * 4 + ("even", None)))
    if chance.random() < 0.05:
        return (name, chance.choice(WRONG))
    some = {"unshow": desk.rule[1], "unhide": desk.rule[2]}.get(name, ())
    if some and chance.random() < 0.8:
        return (name, chance.choice(some))
    return (name, chance.choice(every))


def some_desks(each=4):
    return [Desk(rule, mode) for holders, mode in product(FEW, MODES)
            for rule in near_rules(holders)[::5][:each] + some_rules(holders, each)]


def full_desk(rule=R, mode="any"):
    desk = Desk(rule, mode)
    for number in range(20):
        assert desk.turn(MODES[number % 2]) == number + 1
    return desk


class DeskTest(unittest.TestCase):

    def check_same(self, found, wanted):
        """Compare two outcomes; what an error holds is the very value."""
        self.assertEqual(found[:2], wanted[:2])
        self.assertEqual(repr(found[1]), repr(wanted[1]))
        if found[0] == "raised":
            self.assertEqual(list(found[2]), list(wanted[2]))
            for name, value in wanted[2].items():
                self.assertIs(found[2][name], value)


class MadeTest(DeskTest):

    def check_raised(self, kind, fields, rule, mode):
        with self.assertRaises(kind) as caught:
            Desk(rule, mode)
        self.assertIs(type(caught.exception), kind)
        self.assertEqual(repr(tuple(vars(caught.exception).values())), repr(fields))

    def test_rules_of_one_to_three_holders(self):
        for holders, mode in product(FEW, MODES):
            for rule in near_rules(holders):
                desk = Desk(rule, mode)
                self.assertEqual(repr(desk.rule), repr(rule))
                self.assertEqual((desk.mode, desk.version, desk.changed), (mode, 0, "same"))

    def test_no_rule(self):
        for value in any_values():
            error = rule_error(value)
            if error is not None:
                self.check_raised(BadRule, error, value, "any")
                self.check_raised(BadRule, error, value, "even")
                self.check_raised(BadRule, error, value, value)
        for rule in [(3, ((0,),), ((0, 1),)), (6, (), ()), (2, ((0, 1), (0,)), ()), (5, ((),), ()), (2, [], ()),
                     [2, (), ()]]:
            self.check_raised(BadRule, rule_error(rule), rule, None)

    def test_no_mode(self):
        for value in any_values():
            if not isinstance(value, str) or value not in MODES:
                with self.assertRaises(BadMode) as caught:
                    Desk(R, value)
                self.assertIs(caught.exception.value, value)

    def test_too_many_holders(self):
        for rule in [of_size(4, 2), of_size(5, 5), (4, (), ()), (5, (), ())]:
            for mode in MODES:
                self.check_raised(TooMany, (3,), rule, mode)
            self.check_raised(BadMode, ("even",), rule, "even")
            self.check_raised(BadMode, (None,), rule, None)

    def test_properties_can_only_be_read(self):
        desk = Desk(R, "any")
        before = state(desk)
        for name, value in [("rule", of_size(2, 2)), ("mode", "odd"), ("version", 1), ("changed", "more")]:
            with self.assertRaises(AttributeError):
                setattr(desk, name, value)
            with self.assertRaises(AttributeError):
                delattr(desk, name)
        self.assertEqual(state(desk), before)

    def test_by_names(self):
        desk = Desk(rule=R, mode="odd")
        self.assertEqual((desk.rule, desk.mode), (R, "odd"))
        self.assertEqual(Desk(mode="odd", rule=R), desk)


class ToldTest(DeskTest):

    def check(self, desk):
        rule, mode = desk.rule, desk.mode
        self.assertEqual(repr(desk.contrast()), repr(best(rule, mode)[0] if rule[1] else (1, 1)))
        self.assertEqual(repr(desk.way()), repr(fewest(rule, mode)[1]))
        self.assertTrue(plain_keeps(desk.way(), rule))
        self.assertEqual(len(desk), len(rule[1]) + len(rule[2]))
        self.assertEqual(str(desk), f"{rule[0]} holders, {len(rule[1])} shows, {len(rule[2])} hides, {mode}, "
                                    f"version {desk.version}")

    def test_at_first(self):
        for desk in some_desks(12):
            self.check(desk)

    def test_behind_each_edit_and_undo(self):
        chance = random.Random(82)
        for desk in some_desks():
            for _ in range(15):
                name, value = some_edit(chance, desk)
                outcome(getattr(desk, name), value)
                self.check(desk)
                if chance.random() < 0.2:
                    outcome(desk.undo)
                    self.check(desk)

    def test_words(self):
        self.assertEqual(str(Desk(R, "any")), "3 holders, 2 shows, 2 hides, any, version 0")
        desk = Desk((1, (), ()), "odd")
        self.assertEqual((str(desk), len(desk)), ("1 holders, 0 shows, 0 hides, odd, version 0", 0))
        desk.show((0,))
        self.assertEqual((str(desk), len(desk)), ("1 holders, 1 shows, 0 hides, odd, version 1", 1))
        desk.hide(())
        self.assertEqual((str(desk), len(desk)), ("1 holders, 1 shows, 1 hides, odd, version 2", 2))

    def test_without_shows(self):
        for mode in MODES:
            self.assertEqual(repr(Desk((3, (), ((0, 1, 2),)), mode).contrast()), "(1, 1)")


class EditTest(DeskTest):

    def test_edits_drawn_by_chance(self):
        chance = random.Random(83)
        raised, changed = set(), set()
        for desk in some_desks(6):
            plain = PlainDesk(desk.rule, desk.mode)
            for _ in range(chance.choice((10, 40, 60))):
                before = state(desk)
                name, value = some_edit(chance, desk)
                if chance.random() < 0.15:
                    name = "undo"
                wanted = plain.undo() if name == "undo" else plain.edit(name, value)
                found = outcome(desk.undo) if name == "undo" else outcome(getattr(desk, name), value)
                self.check_same(found, wanted)
                self.assertEqual((desk.rule, desk.mode), plain.stood[-1])
                self.assertEqual((desk.version, desk.changed), (len(plain.stood) - 1, plain.changed))
                changed.add(desk.changed)
                if found[0] == "raised":
                    raised.add(found[1:2] + tuple(found[2].get(each) for each in ("word",)))
                    self.assertEqual(state(desk), before)
                else:
                    self.assertEqual(found[1], desk.version)
        self.assertEqual(changed, {"more", "less", "same"})
        self.assertEqual({each[0] for each in raised}, {"Full", "BadRule", "BadMode", "NoGroup", "NothingToUndo"})
        self.assertEqual({each[1] for each in raised if each[0] == "BadRule"}, {"group", "twice", "barred"})

    def test_any_value(self):
        for value in any_values():
            for name in METHODS + ("turn",):
                desk = Desk(R, "any")
                wanted = PlainDesk(R, "any").edit(name, value)
                self.check_same(outcome(getattr(desk, name), value), wanted)
                if wanted[0] == "raised":
                    self.assertEqual(state(desk), state(Desk(R, "any")))

    def test_wrong_groups(self):
        for value in WRONG:
            desk = Desk(R, "any")
            for name in ("show", "hide"):
                self.check_same(outcome(getattr(desk, name), value),
                                ("raised", "BadRule", {"number": None, "word": "group"}))
            for name in ("unshow", "unhide"):
                self.check_same(outcome(getattr(desk, name), value), ("raised", "NoGroup", {"group": value}))
            self.assertEqual(state(desk), state(Desk(R, "any")))

    def test_true_is_not_one(self):
        desk = Desk((2, ((1,),), ((0,),)), "any")
        for name, value in [("unshow", (True,)), ("unhide", (False,)), ("unshow", [1]), ("unhide", [0])]:
            self.check_same(outcome(getattr(desk, name), value), ("raised", "NoGroup", {"group": value}))
        for name, value in [("show", (True,)), ("hide", (False,)), ("show", [0, 1])]:
            self.check_same(outcome(getattr(desk, name), value),
                            ("raised", "BadRule", {"number": None, "word": "group"}))

    def test_twice_and_barred(self):
        for name, value, word in [("show", (0, 1), "twice"), ("hide", (0,), "twice"), ("show", (), "barred"),
                                  ("show", (1, 2), "barred"), ("show", (2,), "barred"), ("show", (0,), "barred"),
                                  ("hide", (0, 1, 2), "barred"), ("hide", (0, 1), "barred"),
                                  ("hide", (0, 2), "barred")]:
            desk = Desk(R, "any")
            self.check_same(outcome(getattr(desk, name), value), ("raised", "BadRule", {"number": None, "word": word}))
            self.assertEqual(state(desk), state(Desk(R, "any")))
        # A show may not be a hide, yet neither stands there twice.
        desk = Desk((2, ((0,),), ((1,),)), "any")
        self.check_same(outcome(desk.hide, (0,)), ("raised", "BadRule", {"number": None, "word": "barred"}))
        self.check_same(outcome(desk.show, (1,)), ("raised", "BadRule", {"number": None, "word": "barred"}))

    def test_groups_take_their_places(self):
        desk = Desk((3, ((0, 2), (2,)), ((0, 1),)), "any")
        self.assertEqual(desk.show((0, 1, 2)), 1)
        self.assertEqual(desk.show((1, 2)), 2)
        self.assertEqual(desk.hide(()), 3)
        self.assertEqual(desk.hide((1,)), 4)
        self.assertEqual(desk.rule, (3, ((0, 1, 2), (0, 2), (1, 2), (2,)), ((), (0, 1), (1,))))
        self.assertEqual(desk.unshow((0, 2)), 5)
        self.assertEqual(desk.unhide(()), 6)
        self.assertEqual(desk.rule, (3, ((0, 1, 2), (1, 2), (2,)), ((0, 1), (1,))))

    def test_the_same_mode_is_let(self):
        desk = Desk(R, "any")
        self.assertEqual(desk.turn("any"), 1)
        self.assertEqual((desk.mode, desk.version, desk.changed), ("any", 1, "same"))
        self.assertEqual(desk.turn("odd"), 2)
        self.assertEqual((desk.mode, desk.changed), ("odd", "more"))

    def test_twenty_edits_in_effect(self):
        for value in any_values():
            desk = full_desk()
            before = state(desk)
            for name in METHODS + ("turn",):
                self.check_same(outcome(getattr(desk, name), value), ("raised", "Full", {}))
            self.assertEqual(state(desk), before)
        desk = full_desk()
        for value in ((0, 1), (0,), (), (0, 1, 2), (1, 2), "any", "odd"):
            for name in METHODS + ("turn",):
                self.check_same(outcome(getattr(desk, name), value), ("raised", "Full", {}))
        self.assertEqual(desk.undo(), 19)
        self.assertEqual(desk.show((0, 1, 2)), 20)
        with self.assertRaises(Full):
            desk.unshow((0, 1, 2))

    def test_by_names(self):
        desk = Desk(R, "any")
        self.assertEqual(desk.show(group=(0, 1, 2)), 1)
        self.assertEqual(desk.unshow(group=(0, 1, 2)), 2)
        self.assertEqual(desk.hide(group=(2,)), 3)
        self.assertEqual(desk.unhide(group=(2,)), 4)
        self.assertEqual(desk.turn(mode="odd"), 5)
        self.assertEqual(desk.tried(function=len), 4)


class UndoTest(DeskTest):

    def test_down_to_nothing_and_one_more(self):
        chance = random.Random(84)
        for desk in some_desks():
            stood = [(desk.rule, desk.mode)]
            while desk.version < 20:
                name, value = some_edit(chance, desk)
                if outcome(getattr(desk, name), value)[0] == "returned":
                    stood.append((desk.rule, desk.mode))
            for version in range(19, -1, -1):
                before, after = plain_contrast(*stood[version + 1]), plain_contrast(*stood[version])
                self.assertEqual(desk.undo(), version)
                self.assertEqual((desk.rule, desk.mode, desk.version), stood[version] + (version,))
                self.assertEqual(desk.changed, "more" if after > before else "less" if after < before else "same")
            last = state(desk)
            with self.assertRaises(NothingToUndo):
                desk.undo()
            self.assertEqual(state(desk), last)

    def test_nothing_to_undo_at_first(self):
        for desk in some_desks():
            before = state(desk)
            self.check_same(outcome(desk.undo), ("raised", "NothingToUndo", {}))
            self.assertEqual(state(desk), before)

    def test_edits_that_are_undone_leave_the_earlier_ones(self):
        chance = random.Random(85)
        for desk in some_desks():
            for _ in range(3):
                outcome(getattr(desk, "show"), chance.choice(all_groups(desk.rule[0])))
            before = (desk.rule, desk.mode, desk.version)
            done = 0
            for _ in range(8):
                name, value = some_edit(chance, desk)
                done += outcome(getattr(desk, name), value)[0] == "returned"
            for _ in range(done):
                desk.undo()
            self.assertEqual((desk.rule, desk.mode, desk.version), before)
            for version in range(desk.version - 1, -1, -1):
                self.assertEqual(desk.undo(), version)

    def test_changed(self):
        desk = Desk(R, "any")
        told = []
        for name, value in [("unhide", (1, 2)), ("hide", (1, 2)), ("turn", "odd"), ("turn", "odd"), ("turn", "any"),
                            ("unshow", (0, 1))]:
            getattr(desk, name)(value)
            told.append(desk.changed)
        self.assertEqual(told, ["more", "less", "more", "same", "less", "same"])
        told = []
        for _ in range(6):
            desk.undo()
            told.append(desk.changed)
        self.assertEqual(told, ["same", "more", "same", "less", "more", "less"])

    def test_changed_stays_where_an_edit_is_refused(self):
        for name, value in [("show", (0, 1)), ("hide", None), ("unshow", ()), ("unhide", (2,)), ("turn", "even")]:
            desk = Desk(R, "any")
            desk.unhide((1, 2))
            self.assertEqual(outcome(getattr(desk, name), value)[0], "raised")
            self.assertEqual(desk.changed, "more")
        desk.undo()
        self.assertEqual(desk.changed, "less")
        outcome(desk.undo)
        self.assertEqual(desk.changed, "less")


class TriedTest(DeskTest):

    def setUp(self):
        self.desk = Desk(R, "any")
        self.desk.unhide((1, 2))
        self.desk.turn("odd")
        self.before = state(self.desk)

    def check_stays(self):
        self.assertEqual(state(self.desk), self.before)
        self.assertEqual(self.desk.tried(lambda desk: [desk.undo(), desk.undo(), outcome(desk.undo)[1]]),
                         [1, 0, "NothingToUndo"])
        self.assertEqual(state(self.desk), self.before)

    def test_functions_that_edit(self):
        def edit(desk):
            self.assertIs(desk, self.desk)
            told = [desk.version, desk.show((0, 1, 2)), desk.hide((2,)), desk.turn("any"), desk.unshow((0, 1)),
                    desk.changed]
            self.assertEqual(desk.rule, (3, ((0, 1, 2), (0, 2)), ((0,), (2,))))
            return told

        self.assertEqual(self.desk.tried(edit), [2, 3, 4, 5, 6, "same"])
        self.check_stays()

    def test_functions_that_take_back(self):
        self.assertEqual(self.desk.tried(lambda desk: [desk.undo(), desk.undo(), desk.rule, desk.changed]),
                         [1, 0, R, "less"])
        self.check_stays()

    def test_functions_that_take_back_and_edit(self):
        def edit(desk):
            desk.undo()
            desk.undo()
            return [desk.show((0, 1, 2)), desk.show((1,)) if desk.rule[2] == ((0,),) else desk.unhide((1, 2)),
                    desk.version]

        self.assertEqual(self.desk.tried(edit), [1, 2, 2])
        self.check_stays()

    def test_what_is_returned_is_the_very_thing(self):
        for value in any_values():
            self.assertIs(self.desk.tried(lambda desk, told=value: told), value)
        self.assertIs(self.desk.tried(lambda desk: desk), self.desk)
        self.assertIsNone(self.desk.tried(lambda desk: None))
        self.check_stays()

    def test_functions_that_raise(self):
        for error in [BadRule(None, "group"), NoGroup((0,)), Full(), ValueError("told"), KeyError(1),
                      ZeroDivisionError(),
                      RuntimeError("told"), StopIteration(3), KeyboardInterrupt(), SystemExit(2)]:
            def fail(desk):
                desk.show((0, 1, 2))
                desk.undo()
                desk.undo()
                raise error

            with self.assertRaises(type(error)) as caught:
                self.desk.tried(fail)
            self.assertIs(caught.exception, error)
            self.check_stays()

    def test_errors_of_the_desk_go_on(self):
        for function, kind in [(lambda desk: desk.show(None), BadRule), (lambda desk: desk.unshow([]), NoGroup),
                               (lambda desk: desk.turn(0), BadMode),
                               (lambda desk: [desk.undo() for _ in range(9)], NothingToUndo),
                               (lambda desk: [desk.turn("any") for _ in range(21)], Full),
                               (lambda desk: 1 // 0, ZeroDivisionError)]:
            with self.assertRaises(kind):
                self.desk.tried(function)
            self.check_stays()

    def test_twenty_deep(self):
        def deeper(desk, depth):
            before = state(desk)
            if depth < 20:
                told = desk.tried(lambda same: [same.turn(MODES[depth % 2])] + deeper(same, depth + 1))
            else:
                told = ["deep"]
            self.assertEqual(state(desk), before)
            return told

        self.assertEqual(Desk(R, "any").tried(lambda desk: deeper(desk, 0)), list(range(1, 21)) + ["deep"])
        desk = Desk(R, "any")
        deeper(desk, 0)
        self.assertEqual(state(desk), state(Desk(R, "any")))

    def test_errors_from_twenty_deep(self):
        seen = []

        def deeper(desk, depth):
            if depth == 20:
                raise BadMode("deep")
            desk.turn(MODES[depth % 2])
            before = state(desk)
            try:
                desk.tried(lambda same: deeper(same, depth + 1))
            finally:
                seen.append(state(desk) == before)

        desk = Desk(R, "any")
        with self.assertRaises(BadMode):
            desk.tried(lambda same: deeper(same, 0))
        self.assertEqual(seen, [True] * 20)
        self.assertEqual(state(desk), state(Desk(R, "any")))

    def test_edits_behind_a_try_within_a_try(self):
        def edit(desk):
            desk.show((0, 1, 2))
            told = desk.tried(lambda same: (same.undo(), same.undo(), same.version))
            return told + (desk.version, desk.turn("any"))

        self.assertEqual(self.desk.tried(edit), (2, 1, 1, 3, 4))
        self.check_stays()

    def test_other_objects_stay_as_they_were_left(self):
        other, told = Desk(R, "any"), []
        clerk = Clerk(self.desk)

        def edit(desk):
            told.append(other.turn("odd"))
            told.append(clerk.say("undo"))

        self.desk.tried(edit)
        self.assertEqual(told, [1, "ok 1"])
        self.assertEqual((other.version, other.mode), (1, "odd"))
        self.assertEqual(clerk.history, (("undo", "ok 1"),))
        self.check_stays()

    def test_changed_stays(self):
        for name, value, wanted in [("turn", "any", "same"), ("turn", "odd", "more"), ("unhide", (1, 2), "more"),
                                    ("hide", (1,), "same")]:
            desk = Desk(R, "any")
            getattr(desk, name)(value)
            self.assertEqual(desk.changed, wanted)
            desk.tried(lambda same: [same.turn("odd"), same.undo(), same.undo()])
            self.assertEqual(desk.changed, wanted)
            desk.tried(lambda same: [same.unhide((0,)), same.turn("any"), same.turn("odd")])
            self.assertEqual(desk.changed, wanted)


class EqualTest(DeskTest):

    def check(self, one, other, wanted):
        self.assertIs(one == other, wanted)
        self.assertIs(other == one, wanted)
        self.assertIs(one != other, not wanted)
        self.assertIs(other != one, not wanted)

    def test_desks(self):
        desks = some_desks()
        for one, other in product(desks, desks):
            self.check(one, other, (one.rule, one.mode) == (other.rule, other.mode))

    def test_edits_and_what_changed_do_not_matter(self):
        one, other = Desk(R, "any"), Desk(R, "any")
        self.check(one, other, True)
        one.turn("odd")
        self.check(one, other, False)
        one.turn("any")
        self.check(one, other, True)
        one.undo()
        other.turn("odd")
        self.check(one, other, True)
        one.show((0, 1, 2))
        self.check(one, other, False)
        other.show((0, 1, 2))
        self.check(one, other, True)

    def test_values_of_other_kinds(self):
        desk = Desk(R, "any")
        for value in any_values():
            wanted = isinstance(value, Desk)
            self.check(desk, value, wanted)
        for value in [R, (R, "any"), str(desk), Clerk(desk), (desk,), [desk], desk.way(), 0, 4, None]:
            self.check(desk, value, False)

    def test_two_desks_are_apart(self):
        one, other = Desk(R, "any"), Desk(R, "any")
        one.turn("odd")
        one.unhide((1, 2))
        self.assertEqual(state(other), state(Desk(R, "any")))


class UnchangedTest(DeskTest):

    def test_what_is_handed_over(self):
        for value in plain_values():
            words = repr(value)
            outcome(Desk, value, value)
            outcome(Desk, R, value)
            desk = Desk(R, "any")
            for name in METHODS + ("turn",):
                outcome(getattr(desk, name), value)
            self.assertEqual(repr(value), words)

    def test_the_same_calls_tell_the_same(self):
        chance = random.Random(86)
        one, other = some_desks(), some_desks()
        for first, second in zip(one, other):
            for _ in range(10):
                name, value = some_edit(chance, first)
                self.assertEqual(repr(outcome(getattr(first, name), value)),
                                 repr(outcome(getattr(second, name), value)))
                self.assertEqual(repr(state(first)), repr(state(second)))
                self.assertEqual(repr(state(first)), repr(state(first)))


if __name__ == "__main__":
    unittest.main()
