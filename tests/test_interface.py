"""The interface: what has landed stands in its file, under its names; promise 3 on what is returned."""

import importlib
import inspect
import unittest

from clearsheets import bounds
from clearsheets.asking import asks, both, left_out, reordered, slimmed
from clearsheets.best import best, bound_of, evened, plan_contrast, prices, shares, way_by
from clearsheets.books import book_error, flattened, guess, knows, looks
from clearsheets.clerks import Clerk
from clearsheets.counted import fewest
from clearsheets.desks import Desk
from clearsheets.drafts import slim, table_of, way_of
from clearsheets.forms import equals, first_form, likeness
from clearsheets.lights import blind, cut, gains, light, lights, shown, sighted, told, unlike_part
from clearsheets.making import beside, exchanged, handed, merged, toned, without
from clearsheets.rules import broken, contrast, keeps, of_size, opening, rule_error
from clearsheets.ways import dots, groups, is_group, parts, way_error
from clearsheets.wishes import best_for, meets, ring, ring_holds, several, wishes_error
from tests.values import B, H, R, T, V, W, any_values

FUNCTIONS = {
    "ways": {
        "is_group": ["holders", "value"],
        "groups": ["holders"],
        "parts": ["group"],
        "way_error": ["value"],
        "dots": ["way"],
    },
    "lights": {
        "light": ["way", "tone", "group"],
        "lights": ["way", "tone"],
        "gains": ["way", "one", "other"],
        "cut": ["way", "tone", "group"],
        "told": ["way", "group"],
        "shown": ["way", "group"],
        "unlike_part": ["way", "one", "other", "group"],
        "blind": ["way"],
        "sighted": ["way"],
    },
    "drafts": {
        "table_of": ["holders", "mode", "wanted"],
        "way_of": ["holders", "mode", "wanted"],
        "slim": ["way"],
    },
    "rules": {
        "rule_error": ["value"],
        "keeps": ["way", "rule"],
        "broken": ["way", "rule"],
        "contrast": ["way", "rule"],
        "of_size": ["holders", "many"],
        "opening": ["holders", "some"],
    },
    "asking": {
        "both": ["one", "other"],
        "slimmed": ["rule"],
        "asks": ["one", "other"],
        "left_out": ["rule", "holder"],
        "reordered": ["rule", "order"],
    },
    "best": {
        "way_by": ["holders", "mode", "plan"],
        "shares": ["way"],
        "plan_contrast": ["rule", "mode", "plan"],
        "evened": ["holders", "plan"],
        "best": ["rule", "mode"],
        "prices": ["rule", "mode"],
        "bound_of": ["rule", "mode", "value"],
    },
    "counted": {
        "fewest": ["rule", "mode"],
    },
    "making": {
        "beside": ["one", "other"],
        "exchanged": ["way", "order"],
        "toned": ["way", "tones"],
        "without": ["way", "holder"],
        "merged": ["way", "lots"],
        "handed": ["outer", "holder", "inner"],
    },
    "forms": {
        "likeness": ["one", "other"],
        "first_form": ["way"],
        "equals": ["way"],
    },
    "wishes": {
        "wishes_error": ["value"],
        "meets": ["way", "wishes"],
        "ring": ["wishes"],
        "ring_holds": ["wishes", "value"],
        "best_for": ["wishes"],
        "several": ["holders", "mode", "seers", "hides"],
    },
    "books": {
        "book_error": ["value"],
        "looks": ["book", "tone", "group"],
        "knows": ["book", "group"],
        "guess": ["book", "group"],
        "flattened": ["book"],
    },
    "pictures": {
        "draw": ["way", "picture", "orders"],
        "lay": ["way", "sheets", "group"],
        "read": ["way", "group", "seen"],
        "drawings": ["way", "picture", "group", "seen"],
        "suspects": ["way", "group", "seen"],
    },
    "texts": {
        "group_text": ["group"],
        "rule_text": ["rule"],
        "way_text": ["way"],
        "read_rule": ["value"],
        "read_way": ["value"],
    },
}
DEFAULTS = {"gains": {"one": 0, "other": 1}}
CLASSES = {
    "errors": {
        "BadMode": ["value"],
        "BadRule": ["number", "word"],
        "BadText": ["place"],
        "BadWay": ["number", "word"],
        "NotKept": ["broken"],
        "TooMany": ["limit"],
        "NoGroup": ["group"],
    },
    "desks": {
        "Desk": ["rule", "mode"],
    },
    "clerks": {
        "Clerk": ["desk"],
    },
}
METHODS = {
    Desk: {
        "contrast": [],
        "way": [],
        "show": ["group"],
        "unshow": ["group"],
        "hide": ["group"],
        "unhide": ["group"],
        "turn": ["mode"],
        "undo": [],
        "tried": ["function"],
        "__len__": [],
        "__eq__": ["other"],
        "__str__": [],
    },
    Clerk: {
        "say": ["line"],
    },
}
PROPERTIES = {Desk: ["rule", "mode", "version", "changed"], Clerk: ["history"]}
BOUNDS = {"MAX_COUNTED": 3, "MAX_DOTS": 400, "MAX_DRAWN": 8, "MAX_EDITS": 20, "MAX_HOLDERS": 5, "MAX_LOOKS": 12,
          "MAX_SOLVED": 4, "MAX_TONES": 4}


def is_returned_kind(value):
    """Return whether value is made of the values that may be returned."""
    if type(value) is tuple:
        return all(is_returned_kind(item) for item in value)
    return value is None or type(value) in (int, str, bool)


class InterfaceTest(unittest.TestCase):

    def check(self, listed):
        for file, names in listed.items():
            module = importlib.import_module("clearsheets." + file)
            for name, arguments in names.items():
                with self.subTest(file=file, name=name):
                    item = getattr(module, name)
                    self.assertEqual(item.__module__, "clearsheets." + file)
                    self.assertEqual(item.__name__, name)
                    found = inspect.signature(item).parameters
                    self.assertEqual(list(found), arguments)
                    defaults = {key: one.default for key, one in found.items() if one.default is not one.empty}
                    self.assertEqual(defaults, DEFAULTS.get(name, {}))

    def test_functions(self):
        self.check(FUNCTIONS)

    def test_classes(self):
        self.check(CLASSES)

    def test_methods_are_defined_in_the_class_itself(self):
        for kind, names in METHODS.items():
            for name, arguments in names.items():
                with self.subTest(kind=kind.__name__, name=name):
                    item = vars(kind)[name]
                    self.assertEqual(item.__qualname__, f"{kind.__name__}.{name}")
                    self.assertEqual(list(inspect.signature(item).parameters)[1:], arguments)

    def test_properties_are_defined_in_the_class_itself(self):
        for kind, names in PROPERTIES.items():
            for name in names:
                self.assertIsInstance(vars(kind)[name], property)
                self.assertIsNone(vars(kind)[name].fset)

    def test_bounds(self):
        for name, bound in BOUNDS.items():
            self.assertEqual(repr(getattr(bounds, name)), repr(bound))

    def test_results_are_made_of_the_kinds_told(self):
        found = [groups(holders) for holders in range(1, 6)] + [parts(group) for group in groups(5)]
        found += [dots(way) for way in (W, V, H)]
        for value in any_values():
            found += [way_error(value), is_group(3, value), rule_error(value), wishes_error(value),
                      ring_holds(T, value),
                      book_error(value)]
        for way in (W, V, H):
            found += [light(way, 0, (0,)), lights(way, 0), gains(way), cut(way, 0, (0,)), told(way, (0,)),
                      shown(way, (0,)), unlike_part(way, 0, 1, (0, 1)), blind(way), sighted(way), slim(way),
                      table_of(way[0], way[1], lights(way, 1)), way_of(way[0], way[1], gains(way))]
        found += [keeps(W, of_size(2, 2)), broken(V, of_size(2, 2)), contrast(W, of_size(2, 2)), broken(H, R),
                  of_size(3, 2), opening(3, ((0, 1),))]
        found += [both(R, R), slimmed(R), asks(R, R), left_out(R, 0), reordered(R, (2, 0, 1)), best(R, "odd"),
                  prices(R, "odd"), bound_of(R, "odd", prices(R, "odd")), bound_of(R, "any", ()), fewest(R, "any"),
                  plan_contrast(R, "any", best(R, "any")[1]), evened(3, best(R, "any")[1]), shares(H),
                  way_by(3, "any", shares(H)), beside(W, V), exchanged(V, (1, 0)), toned(W, (0, 0)), without(H, 1),
                  merged(H, ((0, 1), ())), handed(W, 1, V)]
        pictures = several(2, "any", (((0, 1), 0),), ((0,), (1,)))
        found += [likeness(V, W), likeness(H, H), first_form(H), equals(V), ring(T), meets(W, (2, "any", 2, ())),
                  best_for(T),
                  pictures, best_for(pictures), ring(pictures), looks(B, 0, (0,)), knows(B, (0,)), guess(B, (0,)),
                  flattened(B)]
        for result in found:
            self.assertTrue(is_returned_kind(result), result)


if __name__ == "__main__":
    unittest.main()
