"""Promise 31: rules made of rules."""

import unittest
from itertools import permutations, product

from clearsheets.asking import asks, both, left_out, reordered, slimmed
from clearsheets.errors import BadRule
from clearsheets.making import exchanged, without
from clearsheets.rules import keeps, of_size, rule_error
from tests.plainly import HOLDERS, all_groups, all_tables, near_rules, part_of, plain_keeps, some_rules, some_ways
from tests.sessions import run_session
from tests.values import R

SESSION = """
>>> from clearsheets.asking import asks, both, left_out, reordered, slimmed
>>> from clearsheets.rules import of_size
>>> asks(of_size(3, 2), R), asks(R, (3, (), ((), (1,)))), left_out(R, 2), reordered(R, (1, 0, 2)), slimmed((2, (), ((), (0,), (1,))))
(False, True, (2, ((0, 1),), ((0,),)), (3, ((0, 1), (1, 2)), ((0, 2), (1,))), (2, (), ((0,), (1,))))
>>> both(R, (3, ((1, 2),), ()))
raises BadRule(2, 'barred')
"""


class SessionTest(unittest.TestCase):

    def test_examples(self):
        run_session(self, SESSION)


class BothTest(unittest.TestCase):

    def check(self, one, other):
        shows, hides = sorted({*one[1], *other[1]}), sorted({*one[2], *other[2]})
        barred = [at for at, show in enumerate(shows) if any(part_of(show, hide) for hide in hides)]
        if not barred:
            self.assertEqual(repr(both(one, other)), repr((one[0], tuple(shows), tuple(hides))))
            return
        with self.assertRaises(BadRule) as caught:
            both(one, other)
        self.assertEqual((caught.exception.number, caught.exception.word), (barred[0], "barred"))
        self.assertEqual(rule_error((one[0], tuple(shows), tuple(hides))), (barred[0], "barred"))

    def test_rules_drawn_by_chance(self):
        for holders in HOLDERS:
            for one, other in product(some_rules(holders, 25), repeat=2):
                self.check(one, other)

    def test_rules_near_one_another(self):
        for holders in (1, 2, 3):
            rules = near_rules(holders)
            for one, other in product(rules, rules[::3]):
                self.check(one, other)
                self.check(other, one)

    def test_a_rule_and_itself(self):
        for holders in HOLDERS:
            for rule in near_rules(holders):
                self.assertEqual(both(rule, rule), rule)
                self.assertEqual(both(rule, (holders, (), ())), rule)
                self.assertEqual(both((holders, (), ()), rule), rule)

    def check_barred(self, one, other, number):
        with self.assertRaises(BadRule) as caught:
            both(one, other)
        self.assertEqual((caught.exception.number, caught.exception.word), (number, "barred"))

    def test_the_first_barred_show(self):
        self.check_barred(R, (3, ((1, 2),), ()), 2)
        self.check_barred((3, (), ((0, 1, 2),)), (3, ((0,), (1,)), ()), 0)
        self.check_barred((3, ((0,), (1,), (2,)), ()), (3, (), ((1, 2),)), 1)
        self.check_barred(of_size(5, 3), of_size(5, 4), 0)
        self.check_barred(of_size(5, 4), (5, ((0, 1, 2, 3, 4), (4,)), ()), 6)

    def test_hides_within_hides_stay(self):
        self.assertEqual(both((3, (), ((), (0,))), (3, ((0, 1, 2),), ((0,), (0, 1)))),
                         (3, ((0, 1, 2),), ((), (0,), (0, 1))))

    def test_by_names(self):
        self.assertEqual(both(one=(1, (), ()), other=(1, ((0,),), ())), (1, ((0,),), ()))


class SlimmedTest(unittest.TestCase):

    def test_rules(self):
        for holders in HOLDERS:
            for rule in near_rules(holders) + some_rules(holders):
                kept = [hide for hide in rule[2]
                        if not any(part_of(hide, other) and hide != other for other in rule[2])]
                self.assertEqual(repr(slimmed(rule)), repr((holders, rule[1], tuple(kept))))

    def test_literal_rules(self):
        self.assertEqual(slimmed((2, (), ((),))), (2, (), ((),)))
        self.assertEqual(slimmed((2, (), ())), (2, (), ()))
        self.assertEqual(slimmed((3, (), tuple(all_groups(3)))), (3, (), ((0, 1, 2),)))
        self.assertEqual(slimmed((3, ((2,),), ((), (0,), (0, 1), (1,)))), (3, ((2,),), ((0, 1),)))

    def test_by_name(self):
        self.assertEqual(slimmed(rule=R), R)


class AsksTest(unittest.TestCase):

    def check(self, one, other):
        wanted = set(other[1]) <= set(one[1]) and all(
            hide == () or any(part_of(hide, cover) for cover in one[2]) for hide in other[2])
        self.assertIs(asks(one, other), wanted, (one, other))

    def test_rules_near_one_another(self):
        for holders in HOLDERS:
            rules = near_rules(holders)
            for one in rules:
                for other in rules[::1 if holders < 4 else 5]:
                    self.check(one, other)

    def test_each_asks_itself_and_what_it_is_slimmed_to(self):
        for holders in HOLDERS:
            for rule in near_rules(holders):
                self.assertTrue(asks(rule, rule))
                self.assertTrue(asks(rule, slimmed(rule)))
                self.assertTrue(asks(slimmed(rule), rule))
                self.assertTrue(asks(rule, (holders, (), ((),))))

    def test_shows_and_hides_more_or_less(self):
        self.assertIs(asks((2, ((0, 1),), ()), (2, (), ())), True)
        self.assertIs(asks((2, (), ()), (2, ((0, 1),), ())), False)
        self.assertIs(asks((2, ((0,),), ()), (2, ((0, 1),), ())), False)
        self.assertIs(asks((2, (), ((0, 1),)), (2, (), ((0,), (1,)))), True)
        self.assertIs(asks((2, (), ((0,), (1,))), (2, (), ((0, 1),))), False)
        self.assertIs(asks((2, (), ()), (2, (), ((),))), True)
        self.assertIs(asks((2, (), ()), (2, (), ((0,),))), False)
        self.assertIs(asks((2, (), ((),)), (2, (), ((0,),))), False)

    def test_asked_rules_are_kept_by_the_ways_of_the_asking_one(self):
        # For two holders all ways of up to three dots decide what asks tells.
        ways = [(2, mode, pair) for mode in ("any", "odd") for many in (1, 2, 3)
                for pair in product(all_tables(2, many), repeat=2)]
        rules = near_rules(2)
        kept = {rule: {number for number, way in enumerate(ways) if plain_keeps(way, rule)} for rule in rules}
        for one, other in product(rules, repeat=2):
            self.assertEqual(asks(one, other), kept[one] <= kept[other], (one, other))

    def test_by_names(self):
        self.assertIs(asks(one=of_size(3, 2), other=R), False)
        self.assertIs(asks(other=(3, (), ((), (1,))), one=R), True)


class LeftOutTest(unittest.TestCase):

    def check(self, rule, holder):
        holders, shows, hides = rule
        names = {old: new for new, old in enumerate(old for old in range(holders) if old != holder)}
        shows, hides = [tuple(tuple(names[item] for item in group) for group in some if holder not in group)
                        for some in (shows, hides)]
        found = left_out(rule, holder)
        self.assertEqual(repr(found), repr((holders - 1, shows, hides)))
        self.assertIsNone(rule_error(found))

    def test_each_holder(self):
        for holders in HOLDERS[1:]:
            for rule in near_rules(holders) + some_rules(holders):
                for holder in range(holders):
                    self.check(rule, holder)

    def test_literal_rules(self):
        self.assertEqual(left_out(of_size(3, 2), 0), of_size(2, 2))
        self.assertEqual(left_out(of_size(2, 2), 1), (1, (), ((0,),)))
        self.assertEqual(left_out(R, 0), (2, (), ((0, 1),)))
        self.assertEqual(left_out(R, 1), (2, ((0, 1),), ((0,),)))

    def test_kept_by_ways_without_the_holder(self):
        for way in some_ways(each=20, tones=(2,), holders=(2, 3, 4)):
            for rule in some_rules(way[0], 25):
                if keeps(way, rule):
                    for holder in range(way[0]):
                        self.assertTrue(keeps(without(way, holder), left_out(rule, holder)))

    def test_by_names(self):
        self.assertEqual(left_out(rule=R, holder=2), (2, ((0, 1),), ((0,),)))


class ReorderedTest(unittest.TestCase):

    def check(self, rule, order):
        holders, shows, hides = rule
        wanted = [tuple(group for group in all_groups(holders) if tuple(sorted(order[item] for item in group)) in some)
                  for some in (shows, hides)]
        found = reordered(rule, order)
        self.assertEqual(repr(found), repr((holders, *wanted)))
        self.assertIsNone(rule_error(found))
        self.assertEqual((len(found[1]), len(found[2])), (len(shows), len(hides)))

    def test_all_orders(self):
        for holders in (1, 2, 3, 4):
            for rule in near_rules(holders)[::4]:
                for order in permutations(range(holders)):
                    self.check(rule, order)

    def test_orders_of_five(self):
        for rule in near_rules(5)[::9]:
            for order in [(0, 1, 2, 3, 4), (4, 3, 2, 1, 0), (1, 2, 3, 4, 0), (2, 0, 4, 1, 3)]:
                self.check(rule, order)

    def test_an_order_that_is_not_its_own_reverse(self):
        # Holder 0 takes the place of holder 1, who takes that of holder 2.
        self.assertEqual(reordered((3, ((1,),), ()), (1, 2, 0)), (3, ((0,),), ()))
        self.assertEqual(reordered((3, ((0, 1),), ((2,),)), (1, 2, 0)), (3, ((0, 2),), ((1,),)))

    def test_kept_by_ways_exchanged(self):
        for way in some_ways(each=20, tones=(2,), holders=(2, 3)):
            for rule in some_rules(way[0], 25):
                if keeps(way, rule):
                    for order in permutations(range(way[0])):
                        self.assertTrue(keeps(exchanged(way, order), reordered(rule, order)))

    def test_by_names(self):
        self.assertEqual(reordered(rule=R, order=(0, 1, 2)), R)


class UnchangedTest(unittest.TestCase):

    def test_equal_calls_and_arguments(self):
        rule, other, order = (3, ((0, 1),), ((), (0,), (2,))), (3, ((0, 1, 2),), ((1,),)), (2, 0, 1)
        words = repr((rule, other, order))
        for function, arguments in [(both, (rule, other)), (slimmed, (rule,)), (asks, (rule, other)),
                                    (left_out, (rule, 1)), (reordered, (rule, order))]:
            self.assertEqual(repr(function(*arguments)), repr(function(*arguments)))
        self.assertEqual(repr((rule, other, order)), words)


if __name__ == "__main__":
    unittest.main()
