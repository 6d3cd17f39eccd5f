"""Promise 3, over the whole program: arguments stay, equal calls tell the same, results are of the kinds told."""

import importlib
import random
import unittest

from clearsheets.clerks import Clerk
from clearsheets.desks import Desk
from clearsheets.errors import BadRule, BadText, NotKept, TooMany
from tests.plainly import outcome
from tests.test_interface import FUNCTIONS
from tests.values import B, H, R, T, V, W, any_values, plain_values

TWO = (2, ((0, 1),), ((0,), (1,)))
PLAN = (((1, 2), (0, 1), (1, 2), (0, 1)), ((0, 1), (1, 2), (0, 1), (1, 2)))
PRICES = ((0, 1), (-1, 1), (2, 1), (-1, 1))
RING = ((0,), (("lighter", 1, 0), ("lighter", 0, 1)))
SEEN = (((0, 1), (0, 1)),)
SHEETS = (((0, 1), (0, 1)), ((0, 1), (1, 0)))
GREAT = (5, "any", (((),) * 400, ((0,),) * 400))

# For each function some arguments, in the order of the interface.
CALLS = {
    "is_group": [(2, (0, 1)), (2, (1, 0)), (2, [0]), (5, None)],
    "groups": [(1,), (5,)],
    "parts": [((),), ((0, 2, 4),)],
    "way_error": [(W,), (R,), (None,)],
    "dots": [(W,), (H,)],
    "light": [(W, 0, (0,)), (H, 1, ())],
    "lights": [(W, 1), (H, 0)],
    "gains": [(W, 0, 1), (H, 1, 0), (W, 1, 1)],
    "cut": [(W, 0, (0,)), (H, 1, (0, 2))],
    "told": [(W, (0, 1)), (V, (0,))],
    "shown": [(W, (0, 1)), (V, (0,))],
    "unlike_part": [(W, 0, 1, (0, 1)), (W, 0, 0, (0, 1))],
    "blind": [(W,), (H,)],
    "sighted": [(W,), (V,)],
    "table_of": [(2, "any", (2, 1, 0, 1)), (2, "odd", (2, 1, 2, 1))],
    "way_of": [(2, "any", (0, 0, 1, 0)), (2, "odd", (0, 0, 1, 0)), (1, "any", (0, 401))],
    "slim": [(W,), ((1, "any", (((), (0,)), ((), ()))),)],
    "rule_error": [(R,), (W,), ([R],)],
    "keeps": [(W, TWO), (V, TWO)],
    "broken": [(W, TWO), (V, TWO)],
    "contrast": [(W, TWO), (V, TWO)],
    "of_size": [(3, 2), (1, 1)],
    "opening": [(3, ((0, 2), (1,), (1,)))],
    "both": [(R, R), (R, (3, ((1, 2),), ()))],
    "slimmed": [((2, (), ((), (0,))),)],
    "asks": [(R, R), (R, (3, ((1,),), ()))],
    "left_out": [(R, 2), (R, 0)],
    "reordered": [(R, (1, 2, 0))],
    "way_by": [(2, "any", PLAN), (1, "odd", (((1, 401), (400, 401)), ((1, 1), (0, 1))))],
    "shares": [(W,), (V,)],
    "plan_contrast": [(TWO, "any", PLAN), (TWO, "odd", PLAN), ((2, ((0,),), ()), "any", PLAN)],
    "evened": [(2, PLAN)],
    "best": [(TWO, "any"), (R, "odd"), ((5, ((0,),), ()), "any")],
    "prices": [(TWO, "any"), (R, "odd")],
    "bound_of": [(TWO, "any", PRICES), (TWO, "any", ((0, 1), (0, 1), (1, 2), (0, 1))), (R, "odd", [])],
    "fewest": [(TWO, "any"), (R, "odd"), ((4, (), ()), "any")],
    "beside": [(W, V), (GREAT, GREAT)],
    "exchanged": [(V, (1, 0))],
    "toned": [(W, (1, 0, 1))],
    "without": [(H, 1)],
    "merged": [(W, ((0, 1), (), (1,)))],
    "handed": [(W, 0, W), (GREAT, 0, GREAT)],
    "likeness": [(V, V), (V, W)],
    "first_form": [(V,), (H,)],
    "equals": [(V,), (H,)],
    "wishes_error": [(T,), (W,), ((1, "any", 2, (("alike", (0,), 1, 0),)),)],
    "meets": [(W, (2, "any", 2, (("lighter", (0, 1), 0, 1),))), (V, (2, "any", 2, (("alike", (0, 1), 0, 1),)))],
    "ring": [(T,), ((1, "any", 2, ()),)],
    "ring_holds": [(T, RING), (T, [RING])],
    "best_for": [(T,), ((1, "odd", 3, (("lighter", (0,), 0, 1), ("lighter", (0,), 1, 2))),)],
    "several": [(2, "any", (((0, 1), 0), ((0,), 1)), ((1,), (1,)))],
    "book_error": [(B,), (W,), ({},)],
    "looks": [(B, 0, (0,)), (B, 1, ())],
    "knows": [(B, (0,)), (B, ())],
    "guess": [(B, (0,)), (B, ())],
    "flattened": [(B,)],
    "draw": [(W, ((0, 1),), ((0, 1), (1, 0)))],
    "lay": [(W, SHEETS, (0, 1))],
    "read": [(W, (0, 1), (1, 0, 7))],
    "drawings": [(W, ((0, 1),), (0,), SEEN), (W, ((0, 1),), (), ())],
    "suspects": [(W, (0,), SEEN)],
    "group_text": [((),), ((0, 2),)],
    "rule_text": [(R,)],
    "way_text": [(W,)],
    "read_rule": [("holders 3 shows 01 02 hides 0 12",), ("holders",), (None,), ("holders 3 shows hides 9",)],
    "read_way": [("holders 2 any\ntone . 01\ntone 0 1",), ("",), (W,), ("holders 2 any\ntone 0",)],
}
# Which argument accepts any value, and what the others are then.
ANY = {
    "is_group": [(3, None)],
    "way_error": [(None,)],
    "rule_error": [(None,)],
    "bound_of": [(TWO, "any", None)],
    "wishes_error": [(None,)],
    "ring_holds": [(T, None)],
    "book_error": [(None,)],
    "read_rule": [(None,)],
    "read_way": [(None,)],
}


def named():
    """Return triples of a function, its arguments' names and its name."""
    found = {}
    for file, names in FUNCTIONS.items():
        for name, arguments in names.items():
            found[name] = (getattr(importlib.import_module("clearsheets." + file), name), arguments)
    return found


def is_told_kind(value):
    """Return whether value is made of tuples, integers, strings, True, False and None at every depth."""
    if type(value) is tuple:
        return all(is_told_kind(item) for item in value)
    return value is None or type(value) in (int, str, bool)


class CallsTest(unittest.TestCase):

    def test_each_function_of_the_interface_is_called(self):
        self.assertEqual(set(CALLS), set(named()))

    def test_by_the_arguments_names(self):
        for name, (function, arguments) in named().items():
            for values in CALLS[name]:
                with self.subTest(name=name, values=repr(values)[:60]):
                    wanted = repr(outcome(function, *values))
                    pairs = list(zip(arguments, values, strict=True))
                    self.assertEqual(repr(outcome(function, **dict(pairs))), wanted)
                    self.assertEqual(repr(outcome(function, **dict(pairs[::-1]))), wanted)

    def test_what_is_told_has_tuples_at_every_depth(self):
        for name, (function, _) in named().items():
            for values in CALLS[name]:
                found = outcome(function, *values)
                if found[0] == "returned":
                    self.assertTrue(is_told_kind(found[1]), (name, found))
                else:
                    self.assertTrue(all(is_told_kind(field) for field in found[2].values()), (name, found))

    def test_what_is_passed_stays_as_it_was(self):
        for name, (function, _) in named().items():
            for values in CALLS[name]:
                words = repr(values)
                outcome(function, *values)
                self.assertEqual(repr(values), words, name)

    def test_equal_calls_behind_others_tell_the_same(self):
        chance = random.Random(95)
        calls = [(name, values) for name in CALLS for values in CALLS[name]]
        functions = named()
        wanted = {}
        for _ in range(3):
            chance.shuffle(calls)
            for name, values in calls:
                found = repr(outcome(functions[name][0], *values))
                self.assertEqual(wanted.setdefault((name, repr(values)), found), found)

    def test_any_value_stays_and_is_told_the_same(self):
        for name, (function, _) in named().items():
            for values in ANY.get(name, ()):
                for value in plain_values():
                    passed = values[:-1] + (value,)
                    words = repr(passed)
                    found = outcome(function, *passed)
                    self.assertEqual(repr(outcome(function, *passed)), repr(found))
                    self.assertEqual(repr(passed), words)
                    self.assertTrue(found[0] == "raised" or is_told_kind(found[1]))

    def test_any_value_raises_nothing_but_what_is_told(self):
        raised = set()
        for name, (function, _) in named().items():
            for values in ANY.get(name, ()):
                for value in any_values():
                    for each in (value, (value,), (value, value), (2, value, value), (1, "any", value),
                                 (1, "any", 2, value),
                                 ((0,), (value, value)), (value,) * 4, ((value, 1),) * 4):
                        found = outcome(function, *values[:-1], each)
                        if found[0] == "raised":
                            raised.add((name, found[1]))
        self.assertLessEqual(raised, {("read_rule", "BadText"), ("read_rule", "BadRule"), ("read_way", "BadText"),
                                      ("read_way", "BadWay")})

    def test_errors(self):
        functions = {name: function for name, (function, _) in named().items()}
        for name, values, kind, fields in [("contrast", (V, TWO), NotKept, {"broken": ("show", (0, 1))}),
                                           ("way_of", (1, "any", (0, 401)), TooMany, {"limit": 400}),
                                           ("both", (R, (3, ((1, 2),), ())), BadRule, {"number": 2, "word": "barred"}),
                                           ("best", ((5, (), ()), "any"), TooMany, {"limit": 4}),
                                           ("fewest", ((4, (), ()), "any"), TooMany, {"limit": 3}),
                                           ("handed", (GREAT, 0, GREAT), TooMany, {"limit": 5}),
                                           ("beside", (GREAT, GREAT), TooMany, {"limit": 400}),
                                           ("read_rule", ("holders",), BadText, {"place": 1})]:
            with self.assertRaises(kind) as caught:
                functions[name](*values)
            self.assertIs(type(caught.exception), kind)
            self.assertEqual(vars(caught.exception), fields)


class ObjectsTest(unittest.TestCase):

    def test_what_objects_tell(self):
        desk = Desk(R, "any")
        clerk = Clerk(desk)
        clerk.say("turn odd")
        clerk.say([])
        told = [desk.rule, desk.mode, desk.version, desk.changed, desk.contrast(), desk.way(), desk.show((0, 1, 2)),
                desk.unshow((0, 1, 2)), desk.hide((2,)), desk.unhide((2,)), desk.turn("any"), desk.undo(), len(desk),
                str(desk),
                desk == desk, desk != desk, clerk.say("rule"), clerk.history]
        for value in told:
            self.assertTrue(is_told_kind(value), value)

    def test_any_value_stays(self):
        for value in plain_values():
            words = repr(value)
            told = [self.told(value), self.told(value)]
            self.assertEqual(told[0], told[1])
            self.assertEqual(repr(value), words)

    def told(self, value):
        """Return what new desks and clerks tell when they are handed the value."""
        calls = [lambda: Desk(R, "any").show(value), lambda: Desk(R, "any").unshow(value),
                 lambda: Desk(R, "any").hide(value),
                 lambda: Desk(R, "any").unhide(value), lambda: Desk(R, "any").turn(value),
                 lambda: Desk(R, "any") == value,
                 lambda: Clerk(Desk(R, "any")).say(value), lambda: len(Desk(value, "any")), lambda: len(Desk(R, value)),
                 lambda: len(Desk((2, value, value), "any"))]
        return [repr(outcome(call)) for call in calls]

    def test_a_call_that_raises_changes_no_object(self):
        for value in any_values():
            for name in ("show", "unshow", "hide", "unhide", "turn"):
                desk = Desk(R, "any")
                clerk = Clerk(desk)
                if outcome(getattr(desk, name), value)[0] == "raised":
                    self.assertEqual((desk.rule, desk.mode, desk.version, desk.changed), (R, "any", 0, "same"))
                self.assertEqual(clerk.history, ())


if __name__ == "__main__":
    unittest.main()
