"""Promises 10, 11 and 12: rules, what keeps them, and two kinds of them."""

import random
import unittest
from itertools import combinations, permutations, product
from math import gcd

from clearsheets.errors import NotKept
from clearsheets.rules import broken, contrast, keeps, of_size, opening, rule_error
from tests.plainly import (HOLDERS, MODES, all_groups, all_tables, part_of, plain_cut, plain_gains, plain_keeps,
                           some_rules, some_ways)
from tests.sessions import run_session
from tests.values import H, R, V, W, any_values, nested, plain_values

SESSION = """
>>> from clearsheets.rules import broken, contrast, keeps, of_size, opening, rule_error
>>> rule_error(R), rule_error((2, ((0,),), ((0, 1),))), rule_error((2, ((),), ())), rule_error((2, ((0, 1), (0,)), ()))
(None, (0, 'barred'), (0, 'barred'), (1, 'order'))
>>> of_size(2, 2), opening(3, ((0, 2),)), keeps(W, of_size(2, 2)), contrast(W, of_size(2, 2)), broken(V, of_size(2, 2))
((2, ((0, 1),), ((0,), (1,))), (3, ((0, 1, 2), (0, 2)), ((0, 1), (1, 2))), True, (1, 2), ('show', (0, 1)))
"""
NO_TUPLES = (None, True, False, 0, 2, "", "01", [], [(0, 1)], {}, {(0, 1): 0}, 10 ** 59)
NO_GROUPS = (None, True, 0, 1, "", "0", [], [0], {}, {0: 0}, (2,), (-1,), (1, 0), (0, 0), (True,), (False,), (0, True),
             ([0],), ((0,),), (None,), ("0",), nested(11))


class SessionTest(unittest.TestCase):

    def test_examples(self):
        run_session(self, SESSION)


class RuleErrorTest(unittest.TestCase):

    def check(self, value, wanted):
        with self.subTest(value=repr(value)[:70], wanted=wanted):
            self.assertEqual(repr(rule_error(value)), repr(wanted))

    def test_rules_drawn_by_chance(self):
        for holders in HOLDERS:
            for rule in some_rules(holders):
                self.check(rule, None)

    def test_rules_without_shows_or_hides(self):
        for holders in HOLDERS:
            every = tuple(all_groups(holders))
            self.check((holders, (), ()), None)
            self.check((holders, every[1:], ()), None)
            self.check((holders, every[1:], ((),)), None)
            self.check((holders, (), every), None)
            self.check((holders, (), ((),)), None)

    def test_no_triple(self):
        for value in [(), (2,), (2, ()), (2, (), (), ()), [2, (), ()], "abc", {0: 2, 1: (), 2: ()}, None, True, 0, 3,
                      W + (1,), nested(12)]:
            self.check(value, (None, "rule"))

    def test_wrong_holders(self):
        for holders in [0, 6, -1, 10 ** 59, True, False, None, "2", (2,), [2], {2: 2}]:
            self.check((holders, ((0, 1),), ()), (None, "holders"))
            self.check((holders, None, None), (None, "holders"))

    def test_wrong_shows_and_hides(self):
        for value in NO_TUPLES:
            self.check((2, value, ()), (None, "shows"))
            self.check((2, value, value), (None, "shows"))
            self.check((2, (), value), (None, "hides"))
            self.check((2, ((0, 1),), value), (None, "hides"))
            # Ahead of a wrong group.
            self.check((2, (None,), value), (None, "hides"))
            self.check((2, value, (None,)), (None, "shows"))

    def test_one_wrong_group(self):
        for value in NO_GROUPS:
            self.check((2, (value,), ()), (0, "group"))
            self.check((2, (), (value,)), (0, "group"))
            self.check((2, ((0,), value), ()), (1, "group"))
            self.check((2, ((0,), (0, 1), value), ((),)), (2, "group"))
            self.check((2, ((0, 1),), ((), (0,), value)), (2, "group"))
            self.check((2, (value, (0,)), ()), (0, "group"))

    def test_groups_of_holders_that_are_not_there(self):
        for holders in HOLDERS:
            self.check((holders, ((holders - 1,),), ()), None)
            self.check((holders, ((holders,),), ()), (0, "group"))
            self.check((holders, (), ((), (holders,))), (1, "group"))

    def test_order(self):
        self.check((2, ((0, 1), (0,)), ()), (1, "order"))
        self.check((2, ((0,), (0,)), ()), (1, "order"))
        self.check((2, ((0,), (1,), (0, 1)), ()), (2, "order"))
        self.check((2, (), ((0,), ())), (1, "order"))
        self.check((2, (), ((), ())), (1, "order"))
        self.check((3, ((0, 1, 2),), ((0,), (0, 1), (0, 1))), (2, "order"))
        self.check((3, (), ((0,), (0, 1), (0, 1, 2), (0, 2), (2,), (1, 2))), (5, "order"))

    def test_barred(self):
        self.check((2, ((),), ()), (0, "barred"))
        self.check((2, ((), (0,)), ()), (0, "barred"))
        self.check((2, ((0,), (0, 1)), ((0,),)), (0, "barred"))
        self.check((2, ((0,), (1,)), ((1,),)), (1, "barred"))
        self.check((3, ((0, 1, 2), (0, 2), (2,)), ((0, 1), (1, 2))), (2, "barred"))
        self.check((3, ((0, 1),), ((0, 1, 2),)), (0, "barred"))
        self.check((3, ((0, 1),), ((0,), (0, 1, 2))), (0, "barred"))
        self.check((3, ((0, 1),), ((0,), (0, 2), (1, 2))), None)

    def test_barred_by_each_hide(self):
        for holders in HOLDERS:
            every = all_groups(holders)
            for show, hide in product(every, every):
                wanted = (0, "barred") if part_of(show, hide) else None
                self.check((holders, (show,), (hide,)), wanted)

    def test_the_first_that_applies(self):
        # Shows ahead of hides, item by item, and all of them ahead of what is barred.
        self.check((2, ((0,), (0,), (5,)), ((7,),)), (1, "order"))
        self.check((2, ((5,), (0,)), ()), (0, "group"))
        self.check((2, ((1,), (0,), (0, 1)), ()), (1, "order"))
        self.check((2, ((1,), (5,), (0,)), ()), (1, "group"))
        self.check((2, ((0,),), ((0,), (0,))), (1, "order"))
        self.check((2, ((0,),), ((0,), (5,))), (1, "group"))
        self.check((2, ((), ()), ()), (1, "order"))
        self.check((2, ((),), (None,)), (0, "group"))
        self.check((2, (None,), (None,)), (0, "group"))
        self.check((2, ((0,), None), (None,)), (1, "group"))

    def test_the_first_wrong_item_of_all(self):
        for holders, shows, hides in product((2, 6), (((0, 1),), [(0, 1)], ((0, 1), (0, 1))),
                                             (((0,),), [], ((0, 1),), ((2,),))):
            wanted = None
            if hides == ((0, 1),):
                wanted = (0, "barred")
            if hides == ((2,),):
                wanted = (0, "group")
            if len(shows) == 2:
                wanted = (1, "order")
            if isinstance(hides, list):
                wanted = (None, "hides")
            if isinstance(shows, list):
                wanted = (None, "shows")
            if holders == 6:
                wanted = (None, "holders")
            self.check((holders, shows, hides), wanted)
            self.check([holders, shows, hides], (None, "rule"))

    def test_true_and_false(self):
        self.check((True, (), ()), (None, "holders"))
        self.check((2, ((True,),), ()), (0, "group"))
        self.check((2, ((False, 1),), ()), (0, "group"))
        self.check((2, ((0, 1),), ((False,),)), (0, "group"))
        self.check((2, ((1,),), ((0,), (True,))), (1, "group"))

    def test_many_items(self):
        self.check((5, ((0,),) * 2000, ()), (1, "order"))
        self.check((5, (), tuple(all_groups(5)) + ((4,),)), (32, "order"))

    def test_any_value(self):
        rules = (R, (3, (), ()))
        for value in any_values():
            error = rule_error(value)
            if error is None:
                self.assertIn(value, rules)
            elif not isinstance(value, tuple) or len(value) != 3:
                self.assertEqual(error, (None, "rule"))
            if not isinstance(value, tuple):
                self.check((2, value, ()), (None, "shows"))
                self.check((2, (), value), (None, "hides"))
                self.check((2, (value,), ()), (0, "group"))
                self.check((2, (), (value,)), (0, "group"))
                self.check((2, ((0, value),), ()), (0, "group") if repr(value) != "1" else None)

    def test_nothing_is_changed(self):
        for value in plain_values():
            for rule in [value, (value, (), ()), (2, value, value), (2, (value,), (value,))]:
                words = repr(rule)
                self.assertEqual(rule_error(rule), rule_error(rule))
                self.assertEqual(repr(rule), words)

    def test_by_name(self):
        self.assertIsNone(rule_error(value=R))
        self.assertEqual(rule_error(value=()), (None, "rule"))


def plain_broken(way, rule):
    """Return the first show or hide that is broken, by the definition."""
    holders, mode, (white, black) = way
    gained = dict(zip(all_groups(holders), plain_gains(way)))
    shows = [("show", group) for group in rule[1] if gained[group] <= 0]
    hides = [("hide", group) for group in rule[2] if plain_cut(white, group) != plain_cut(black, group)]
    return (shows + hides + [None])[0]


def plain_contrast(way, rule):
    gained = dict(zip(all_groups(rule[0]), plain_gains(way)))
    if not rule[1]:
        return (1, 1)
    least, many = min(gained[group] for group in rule[1]), len(way[2][0])
    return (least // gcd(least, many), many // gcd(least, many))


class KeepsTest(unittest.TestCase):

    def check(self, way, rule):
        found = plain_broken(way, rule)
        self.assertEqual(repr(broken(way, rule)), repr(found), (way, rule))
        self.assertIs(keeps(way, rule), found is None)
        if found is None:
            self.assertEqual(repr(contrast(way, rule)), repr(plain_contrast(way, rule)))
            return
        with self.assertRaises(NotKept) as caught:
            contrast(way, rule)
        self.assertEqual(repr(caught.exception.broken), repr(found))

    def test_ways_and_rules_drawn_by_chance(self):
        rules = {holders: some_rules(holders, 15) for holders in HOLDERS}
        for way in some_ways(each=15, tones=(2,)):
            for rule in rules[way[0]]:
                self.check(way, rule)

    def test_rules_that_are_kept(self):
        # For each way the rule of all that it shows, and of all that learn nothing by it.
        for way in some_ways(each=25, tones=(2,)):
            holders, mode, (white, black) = way
            every, gained = all_groups(holders), plain_gains(way)
            shows = tuple(group for group, gain in zip(every, gained) if gain > 0)
            hides = tuple(group for group in every if plain_cut(white, group) == plain_cut(black, group))
            self.assertTrue(keeps(way, (holders, shows, hides)))
            self.check(way, (holders, shows, hides))
            self.check(way, (holders, (), hides))
            self.check(way, (holders, shows, ()))
            self.check(way, (holders, (), ()))
            for group in every:
                if group not in shows and group != ():
                    self.check(way, (holders, (group,), ()))
                if group not in hides:
                    self.check(way, (holders, (), (group,)))

    def test_all_ways_of_two_holders_with_two_dots(self):
        rules = [of_size(2, 1), of_size(2, 2), (2, ((0,), (0, 1)), ((1,),)), (2, (), ((0,), (1,))), (2, (), ((0, 1),)),
                 (2, ((0,), (0, 1), (1,)), ())]
        for mode in MODES:
            for tables in product(all_tables(2, 2), repeat=2):
                for rule in rules:
                    self.check((2, mode, tables), rule)

    def test_shows_ahead_of_hides(self):
        way = (2, "any", (((0,),), ((),)))
        self.assertEqual(broken(way, (2, ((1,),), ((0,),))), ("show", (1,)))
        self.assertEqual(broken(way, (2, (), ((), (0,), (1,)))), ("hide", (0,)))
        self.assertEqual(broken(way, (2, (), ((1,),))), None)

    def test_the_first_show_and_the_first_hide(self):
        way = (3, "any", (((0,),), ((),)))
        self.assertEqual(broken(way, (3, ((0,), (0, 1), (1,)), ())), ("show", (0,)))
        self.assertEqual(broken(way, (3, (), ((1, 2), (2,)))), None)
        self.assertEqual(broken(way, (3, (), ((0, 1), (0, 2), (1, 2)))), ("hide", (0, 1)))
        self.assertEqual(broken((3, "any", (((),), ((0,),))), (3, ((0, 1), (1,), (2,)), ())), ("show", (1,)))

    def test_hides_that_see_no_light_but_tell_apart(self):
        way = (2, "odd", (((), (0, 1)), ((), ())))
        self.assertEqual(broken(way, (2, (), ((0, 1),))), ("hide", (0, 1)))
        self.assertEqual(broken(V, (2, (), ((0, 1),))), ("hide", (0, 1)))

    def test_no_gain_is_no_show(self):
        self.assertEqual(broken((1, "any", (((),), ((),))), (1, ((0,),), ())), ("show", (0,)))
        self.assertEqual(broken((1, "any", (((0,),), ((),))), (1, ((0,),), ())), ("show", (0,)))

    def test_the_modes_are_unlike(self):
        # Two black sheets let light through in mode "odd".
        rule = (2, ((0, 1),), ())
        tables = (((0, 1),), ((0,),))
        self.assertTrue(keeps((2, "odd", tables), rule))
        self.assertEqual(broken((2, "any", tables), rule), ("show", (0, 1)))

    def test_contrast_in_lowest_terms(self):
        for times in (1, 2, 3, 7, 200):
            way = (2, "any", (((),) * times + ((0, 1),) * times, ((0,),) * times + ((1,),) * times))
            self.assertEqual(contrast(way, of_size(2, 2)), (1, 2))
        self.assertEqual(contrast((1, "any", (((),) * 400, ((0,),) * 400)), of_size(1, 1)), (1, 1))
        self.assertEqual(contrast((1, "odd", (((),) * 6, ((),) * 2 + ((0,),) * 4)), of_size(1, 1)), (2, 3))

    def test_contrast_is_the_least_of_the_shows(self):
        way = (2, "any", (((), (), ()), ((0, 1), (1,), (1,))))
        self.assertEqual(contrast(way, (2, ((0,), (0, 1), (1,)), ())), (1, 3))
        self.assertEqual(contrast(way, (2, ((0, 1), (1,)), ())), (1, 1))

    def test_contrast_without_shows(self):
        self.assertEqual(contrast(W, (2, (), ((0,), (1,)))), (1, 1))
        self.assertEqual(contrast((1, "any", (((),) * 4, ((),) * 4)), (1, (), ())), (1, 1))
        with self.assertRaises(NotKept) as caught:
            contrast(W, (2, (), ((0, 1),)))
        self.assertEqual(caught.exception.broken, ("hide", (0, 1)))

    def test_three_of_three(self):
        self.assertTrue(keeps(H, of_size(3, 3)))
        self.assertEqual(contrast(H, of_size(3, 3)), (1, 4))
        self.assertEqual(broken(H, of_size(3, 2)), ("show", (0, 1)))
        self.assertEqual(broken(H, (3, (), ((0, 1, 2),))), ("hide", (0, 1, 2)))

    def test_equal_calls_and_arguments(self):
        for way, rule in [(W, of_size(2, 2)), (V, of_size(2, 2)), (H, R), (H, of_size(3, 3))]:
            words = repr((way, rule))
            self.assertEqual(keeps(way, rule), keeps(way, rule))
            self.assertEqual(broken(way, rule), broken(way, rule))
            if keeps(way, rule):
                self.assertEqual(contrast(way, rule), contrast(way, rule))
            self.assertEqual(repr((way, rule)), words)
            self.assertEqual(keeps(way, rule), plain_keeps(way, rule))

    def test_by_names(self):
        self.assertIs(keeps(way=W, rule=of_size(2, 2)), True)
        self.assertIsNone(broken(rule=of_size(2, 2), way=W))
        self.assertEqual(contrast(way=W, rule=of_size(2, 2)), (1, 2))


class OfSizeTest(unittest.TestCase):

    def test_each_number(self):
        for holders in HOLDERS:
            every = all_groups(holders)
            for many in range(1, holders + 1):
                wanted = (holders, tuple(group for group in every if len(group) >= many),
                          tuple(sorted(combinations(range(holders), many - 1))))
                self.assertEqual(repr(of_size(holders, many)), repr(wanted))
                self.assertIsNone(rule_error(of_size(holders, many)))

    def test_literal_rules(self):
        self.assertEqual(of_size(1, 1), (1, ((0,),), ((),)))
        self.assertEqual(of_size(2, 1), (2, ((0,), (0, 1), (1,)), ((),)))
        self.assertEqual(of_size(3, 3), (3, ((0, 1, 2),), ((0, 1), (0, 2), (1, 2))))
        self.assertEqual(of_size(3, 2), (3, ((0, 1), (0, 1, 2), (0, 2), (1, 2)), ((0,), (1,), (2,))))

    def test_by_names(self):
        self.assertEqual(of_size(holders=2, many=2), (2, ((0, 1),), ((0,), (1,))))
        self.assertEqual(of_size(many=1, holders=1), (1, ((0,),), ((),)))


def plain_opening(holders, some):
    every = all_groups(holders)
    shows = [group for group in every if any(part_of(one, group) for one in some)]
    others = [group for group in every if group not in shows]
    hides = [group for group in others if not any(part_of(group, other) and group != other for other in others)]
    return (holders, tuple(shows), tuple(hides))


class OpeningTest(unittest.TestCase):

    def check(self, holders, some):
        found = opening(holders, some)
        self.assertEqual(repr(found), repr(plain_opening(holders, some)), (holders, some))
        self.assertIsNone(rule_error(found))

    def test_each_group(self):
        for holders in HOLDERS:
            for group in all_groups(holders)[1:]:
                self.check(holders, (group,))

    def test_pairs_of_groups_in_any_order(self):
        for holders in (1, 2, 3, 4):
            for pair in product(all_groups(holders)[1:], repeat=2):
                self.check(holders, pair)

    def test_groups_drawn_by_chance(self):
        chance = random.Random(6)
        for holders in HOLDERS:
            every = all_groups(holders)[1:]
            for _ in range(40):
                self.check(holders, tuple(chance.choice(every) for _ in range(chance.randint(1, 6))))

    def test_orders_and_equal_groups_do_not_matter(self):
        wanted = opening(4, ((0, 1), (1, 2, 3), (3,)))
        for some in permutations(((0, 1), (1, 2, 3), (3,))):
            self.assertEqual(opening(4, some), wanted)
            self.assertEqual(opening(4, some * 3), wanted)

    def test_groups_within_others(self):
        self.assertEqual(opening(3, ((0, 1, 2), (0, 2), (0, 1, 2))), opening(3, ((0, 2),)))
        self.assertEqual(opening(5, tuple(all_groups(5)[1:])), of_size(5, 1))
        self.assertEqual(opening(5, tuple(reversed(all_groups(5)[1:]))), of_size(5, 1))

    def test_all_of_a_size(self):
        for holders in HOLDERS:
            for many in range(1, holders + 1):
                self.assertEqual(opening(holders, tuple(combinations(range(holders), many))), of_size(holders, many))

    def test_literal_rules(self):
        self.assertEqual(opening(1, ((0,),)), (1, ((0,),), ((),)))
        self.assertEqual(opening(2, ((1,),)), (2, ((0, 1), (1,)), ((0,),)))
        self.assertEqual(opening(3, ((2,), (0, 1))), (3, ((0, 1), (0, 1, 2), (0, 2), (1, 2), (2,)), ((0,), (1,))))

    def test_arguments_stay(self):
        some = ((0, 1), (0,), (0, 1))
        self.assertEqual(opening(2, some), opening(2, some))
        self.assertEqual(some, ((0, 1), (0,), (0, 1)))

    def test_by_names(self):
        self.assertEqual(opening(holders=3, some=((0, 2),)), (3, ((0, 1, 2), (0, 2)), ((0, 1), (1, 2))))


if __name__ == "__main__":
    unittest.main()
