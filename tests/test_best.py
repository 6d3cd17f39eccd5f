"""Promises 13 and 14: plans, the greatest contrast, and prices; promise 2 (d) and what promise 1 says of fractions."""

import random
import unittest
from fractions import Fraction
from itertools import combinations, product
from math import comb, gcd
from time import perf_counter

from clearsheets.best import best, bound_of, evened, plan_contrast, prices, shares, way_by
from clearsheets.errors import TooMany
from clearsheets.rules import contrast, keeps, of_size, opening
from tests.plainly import (HOLDERS, MODES, TONES, all_groups, all_tables, near_rules, pair, part_of, plain_bound,
                           plain_gains, plain_hidden, plain_plan, plain_plan_contrast, some_plan, some_rule,
                           some_rules, some_table, some_ways)
from tests.sessions import run_session
from tests.values import R, W, any_values, plain_values

SESSION = """
>>> from clearsheets.best import best, bound_of, evened, plan_contrast, prices, shares, way_by
>>> from clearsheets.making import beside
>>> from clearsheets.rules import of_size
>>> best(of_size(2, 2), "any")[0], best(of_size(2, 2), "odd")[0], best(of_size(3, 2), "any")[0], best(R, "any")[0]
((1, 2), (1, 1), (1, 3), (1, 2))
>>> shares(W), way_by(2, "any", shares(beside(W, W))) == W, plan_contrast(of_size(2, 2), "any", shares(W)), evened(2, shares(V))[1]
((((1, 2), (0, 1), (1, 2), (0, 1)), ((0, 1), (1, 2), (0, 1), (1, 2))), True, (1, 2), ((0, 1), (1, 4), (1, 2), (1, 4)))
>>> bound_of(of_size(2, 2), "any", ((0, 1), (-1, 1), (2, 1), (0, 1))), bound_of(of_size(2, 2), "any", prices(of_size(2, 2), "any"))
(None, (1, 2))
"""


def dense_rules(holders, each):
    """Return rules with shows, often very many of them."""
    chance = random.Random(13)
    found = []
    while len(found) < each:
        _, _, hides = some_rule(chance, holders)
        free = [group for group in all_groups(holders)[1:] if not any(part_of(group, hide) for hide in hides)]
        often = chance.choice((0.2, 0.6, 1))
        shows = tuple(group for group in free if chance.random() < often)
        if shows:
            found.append((holders, shows, hides))
    return found


class SessionTest(unittest.TestCase):

    def test_examples(self):
        run_session(self, SESSION)


class SharesTest(unittest.TestCase):

    def test_ways(self):
        for way in some_ways(most=12):
            self.assertEqual(repr(shares(way)), repr(plain_plan(way)))

    def test_great_ways(self):
        chance = random.Random(21)
        for holders, mode in product(HOLDERS, MODES):
            way = (holders, mode, tuple(some_table(chance, holders, 400) for _ in range(4)))
            self.assertEqual(repr(shares(way)), repr(plain_plan(way)))

    def test_by_name(self):
        self.assertEqual(shares(way=(1, "any", (((), (0,), (0,)), ((), (), ())))),
                         (((1, 3), (2, 3)), ((1, 1), (0, 1))))


class WayByTest(unittest.TestCase):

    def check_too_many(self, holders, mode, plan):
        with self.assertRaises(TooMany) as caught:
            way_by(holders, mode, plan)
        self.assertEqual(caught.exception.limit, 400)

    def test_there_and_back(self):
        for holders, mode, tones in product(HOLDERS, MODES, TONES):
            chance = random.Random(holders * 10 + tones)
            for _ in range(10):
                plan = some_plan(chance, holders, tones)
                many = 1
                for _, bottom in sum(plan, ()):
                    many = many * bottom // gcd(many, bottom)
                if many > 400:
                    self.check_too_many(holders, mode, plan)
                    continue
                way = way_by(holders, mode, plan)
                self.assertEqual(way[:2], (holders, mode))
                self.assertEqual(plain_plan(way), plan)
                self.assertEqual([len(table) for table in way[2]], [many] * tones)
                self.assertEqual(way[2], tuple(tuple(sorted(table)) for table in way[2]))

    def test_as_few_dots_as_the_plan_lets(self):
        for way in some_ways(most=8):
            holders, mode, tables = way
            counts = [table.count(group) for table in tables for group in all_groups(holders)]
            times = gcd(*counts)
            wanted = tuple(tuple(sorted(group for group in set(table) for _ in range(table.count(group) // times)))
                           for table in tables)
            self.assertEqual(repr(way_by(holders, mode, shares(way))), repr((holders, mode, wanted)))

    def test_tones_with_unlike_bottoms(self):
        plan = (((1, 2), (1, 2)), ((1, 3), (2, 3)), ((1, 1), (0, 1)))
        self.assertEqual(way_by(1, "odd", plan), (1, "odd", (((),) * 3 + ((0,),) * 3, ((),) * 2 + ((0,),) * 4,
                                                             ((),) * 6)))

    def test_just_as_many_dots_as_there_may_be_and_one_more(self):
        for holders, mode in product(HOLDERS, MODES):
            rest = ((0, 1),) * (2 ** holders - 2)
            for bottom, fits in [(399, True), (400, True), (401, False), (800, False)]:
                plan = (((1, bottom), *rest, (bottom - 1, bottom)), ((1, 1), *rest, (0, 1)))
                if fits:
                    last = all_groups(holders)[-1]
                    self.assertEqual(way_by(holders, mode, plan),
                                     (holders, mode, (((),) + (last,) * (bottom - 1), ((),) * bottom)))
                else:
                    self.check_too_many(holders, mode, plan)
                    self.check_too_many(holders, mode, (plan[1], plan[0]))

    def test_bottoms_that_are_great_together_alone(self):
        halves = lambda bottom: ((1, bottom), (bottom - 1, bottom))
        self.assertEqual(len(way_by(1, "any", (halves(16), halves(25)))[2][0]), 400)
        self.check_too_many(1, "any", (halves(16), halves(27)))
        self.assertEqual(len(way_by(1, "any", (halves(200), halves(400), halves(80), halves(50)))[2][0]), 400)
        self.check_too_many(1, "any", (halves(200), halves(400), halves(80), halves(60)))

    def test_very_many_dots(self):
        great = 10 ** 50
        for holders, tones in product(HOLDERS, TONES):
            rest = ((0, 1),) * (2 ** holders - 2)
            self.check_too_many(holders, "any", (((1, great), (great - 1, great), *rest),) * tones)

    def test_by_names(self):
        self.assertEqual(way_by(holders=2, mode="any", plan=shares(W)), W)
        self.assertEqual(way_by(plan=shares(W), mode="odd", holders=2), (2, "odd", W[2]))


class PlanContrastTest(unittest.TestCase):

    def check(self, rule, mode, plan):
        wanted = plain_plan_contrast(rule, mode, plan)
        self.assertEqual(repr(plan_contrast(rule, mode, plan)), repr(wanted), (rule, mode, plan))
        return wanted

    def test_plans_drawn_by_chance(self):
        chance = random.Random(31)
        kept = 0
        for holders, mode in product(HOLDERS, MODES):
            for rule in near_rules(holders)[::2]:
                kept += self.check(rule, mode, some_plan(chance, holders, 2)) is not None
        self.assertGreater(kept, 20)

    def test_plans_of_ways(self):
        for way in some_ways(each=10, tones=(2,)):
            holders, mode, _ = way
            gained = plain_gains(way)
            shows = tuple(group for group, gain in zip(all_groups(holders), gained) if gain > 0)
            for rule in [(holders, shows, ()), (holders, shows, ((),)), (holders, (), ())] + some_rules(holders, 10):
                wanted = contrast(way, rule) if keeps(way, rule) else None
                self.assertEqual(plan_contrast(rule, mode, shares(way)), wanted)
                self.check(rule, mode, shares(way))

    def test_plans_that_keep_rules_of_up_to_four(self):
        for holders, mode in product((1, 2, 3, 4), MODES):
            for rule in dense_rules(holders, 8):
                plan = best(rule, mode)[1]
                self.assertIsNotNone(self.check(rule, mode, plan))
                for other in near_rules(holders)[::5]:
                    self.check(other, mode, plan)
                self.check(rule, mode, (plan[1], plan[0]))

    def test_a_rule_of_five(self):
        even = tuple((1, 16) if len(group) % 2 == 0 else (0, 1) for group in all_groups(5))
        odd = tuple((1, 16) if len(group) % 2 == 1 else (0, 1) for group in all_groups(5))
        self.assertEqual(plan_contrast(of_size(5, 5), "any", (even, odd)), (1, 16))
        self.assertEqual(plan_contrast(of_size(5, 5), "odd", (even, odd)), (1, 1))
        self.assertIsNone(plan_contrast(of_size(5, 5), "odd", (odd, even)))
        self.assertIsNone(plan_contrast(of_size(5, 4), "any", (even, odd)))

    def test_without_shows(self):
        white, black = ((1, 3), (2, 3)), ((1, 1), (0, 1))
        self.assertEqual(plan_contrast((1, (), ()), "any", (white, black)), (1, 1))
        self.assertEqual(plan_contrast((1, (), ((),)), "any", (white, black)), (1, 1))
        self.assertIsNone(plan_contrast((1, (), ((0,),)), "any", (white, black)))
        self.assertEqual(plan_contrast((1, (), ((0,),)), "any", (white, white)), (1, 1))
        self.assertEqual(plan_contrast((5, (), ()), "odd", some_plan(random.Random(1), 5, 2)), (1, 1))

    def test_a_part_of_a_hide_with_a_gain(self):
        # The hide itself has no gain in mode "odd", but each of its holders has.
        plan = shares((2, "odd", (((), (0, 1)), ((), ()))))
        self.assertIsNone(plan_contrast((2, (), ((0, 1),)), "odd", plan))
        self.assertIsNone(plan_contrast((2, (), ((0,),)), "odd", plan))
        self.assertEqual(plan_contrast((2, (), ((),)), "odd", plan), (1, 1))

    def test_no_gain_at_all(self):
        plan = (((1, 1), (0, 1)),) * 2
        self.assertIsNone(plan_contrast((1, ((0,),), ()), "any", plan))
        self.assertIsNone(plan_contrast((1, ((0,),), ()), "any", (((0, 1), (1, 1)), ((1, 1), (0, 1)))))

    def test_great_bottoms(self):
        great = 10 ** 39
        plan = (((1, 1), (0, 1)), ((great - 1, great), (1, great)))
        self.assertEqual(plan_contrast((1, ((0,),), ()), "any", plan), (1, great))
        self.assertIsNone(plan_contrast((1, (), ((0,),)), "any", plan))

    def test_by_names(self):
        self.assertEqual(plan_contrast(rule=of_size(2, 2), mode="any", plan=shares(W)), (1, 2))


class EvenedTest(unittest.TestCase):

    def check(self, holders, plan):
        every = all_groups(holders)
        wanted = []
        for some in plan:
            share = {group: Fraction(*told) for group, told in zip(every, some)}
            sums = [sum(share[group] for group in every if len(group) == size) for size in range(holders + 1)]
            wanted.append(tuple(pair(sums[len(group)] / comb(holders, len(group))) for group in every))
        self.assertEqual(repr(evened(holders, plan)), repr(tuple(wanted)))

    def test_plans(self):
        chance = random.Random(41)
        for holders, tones in product(HOLDERS, TONES):
            for _ in range(12):
                plan = some_plan(chance, holders, tones)
                self.check(holders, plan)
                self.check(holders, evened(holders, plan))
                self.assertEqual(evened(holders, evened(holders, plan)), evened(holders, plan))

    def test_plans_of_ways(self):
        for way in some_ways():
            self.check(way[0], shares(way))

    def test_tones_that_are_even_already(self):
        even = ((1, 4), (1, 4), (1, 4), (1, 4))
        self.assertEqual(evened(2, (even, ((0, 1), (1, 1), (0, 1), (0, 1)))), (even, ((0, 1), (1, 2), (0, 1), (1, 2))))

    def test_rules_that_stay_the_same(self):
        for holders, mode in product((2, 3, 4), MODES):
            for many in range(1, holders + 1):
                rule = of_size(holders, many)
                told, plan = best(rule, mode)
                self.assertEqual(plan_contrast(rule, mode, evened(holders, plan)), told)

    def test_by_names(self):
        self.assertEqual(evened(holders=1, plan=(((1, 3), (2, 3)), ((1, 1), (0, 1)))),
                         (((1, 3), (2, 3)), ((1, 1), (0, 1))))


class BestTest(unittest.TestCase):

    def check(self, rule, mode):
        """Check that the plan has the contrast told, and that the prices let no way have a greater one."""
        told, plan = best(rule, mode)
        priced = prices(rule, mode)
        self.assertEqual(len(plan), 2)
        for tone in plan:
            self.assertEqual(len(tone), 2 ** rule[0])
            self.assertEqual(sum(Fraction(*share) for share in tone), 1)
            self.assertGreaterEqual(min(top for top, _ in tone), 0)
        self.assertEqual(plain_plan_contrast(rule, mode, plan), told, (rule, mode))
        self.assertEqual(plain_bound(rule, mode, priced), told, (rule, mode))
        self.assertEqual(repr(plan_contrast(rule, mode, plan)), repr(told))
        self.assertEqual(repr(bound_of(rule, mode, priced)), repr(told))
        for top, bottom in (told, *plan[0], *plan[1], *priced):
            self.assertEqual((type(top), type(bottom), gcd(top, bottom)), (int, int, 1))
            self.assertGreaterEqual(bottom, 1)
            self.assertLess(max(abs(top), bottom), 10 ** 40)
        return told

    def test_all_rules_of_one_and_two_holders(self):
        for holders, mode in product((1, 2), MODES):
            every = all_groups(holders)
            for many in range(len(every) + 1):
                for hides in combinations(every, many):
                    free = [group for group in every[1:] if not any(part_of(group, hide) for hide in hides)]
                    for count in range(1, len(free) + 1):
                        for shows in combinations(free, count):
                            self.check((holders, shows, hides), mode)

    def test_rules_of_three_holders(self):
        for rule, mode in product(near_rules(3) + dense_rules(3, 60), MODES):
            if rule[1]:
                self.check(rule, mode)

    def test_rules_of_four_holders(self):
        for rule, mode in product(near_rules(4)[::2] + dense_rules(4, 60), MODES):
            if rule[1]:
                self.check(rule, mode)

    def test_all_of_so_many(self):
        for holders in (1, 2, 3, 4):
            self.assertEqual(self.check(of_size(holders, holders), "any"), (1, 2 ** (holders - 1)))
            self.assertEqual(self.check(of_size(holders, holders), "odd"), (1, 1))

    def test_two_of_so_many(self):
        self.assertEqual(self.check(of_size(2, 2), "any"), (1, 2))
        self.assertEqual(self.check(of_size(3, 2), "any"), (1, 3))
        self.assertEqual(self.check(of_size(4, 2), "any"), (1, 3))

    def test_every_group_sees(self):
        for holders in (1, 2, 3, 4):
            self.assertEqual(self.check(of_size(holders, 1), "any"), (1, 1))
            # A dot that is not () is dark for just half of all groups.
            half, others = 2 ** (holders - 1), 2 ** holders - 1
            self.assertEqual(self.check(of_size(holders, 1), "odd"), (half, others))

    def test_opening_by_one_group(self):
        for holders in (1, 2, 3, 4):
            for group in all_groups(holders)[1:]:
                self.assertEqual(self.check(opening(holders, (group,)), "any"), (1, 2 ** (len(group) - 1)))
                self.assertEqual(self.check(opening(holders, (group,)), "odd"), (1, 1))

    def test_one_show_with_all_lesser_groups_kept_out(self):
        for holders in (1, 2, 3, 4):
            for group in all_groups(holders)[1:]:
                hides = tuple(sorted(combinations(group, len(group) - 1)))
                self.assertEqual(self.check((holders, (group,), hides), "any"), (1, 2 ** (len(group) - 1)))
                self.assertEqual(self.check((holders, (group,), hides), "odd"), (1, 1))

    def test_no_hides(self):
        for mode in MODES:
            for show in all_groups(4)[1:]:
                self.assertEqual(self.check((4, (show,), ()), mode), (1, 1))

    def test_no_way_of_few_dots_is_better(self):
        for mode in MODES:
            rules = dense_rules(2, 12) + [of_size(2, 2)]
            for many in (1, 2, 3):
                for tables in product(all_tables(2, many), repeat=2):
                    way = (2, mode, tables)
                    for rule in rules:
                        if keeps(way, rule):
                            self.assertLessEqual(Fraction(*contrast(way, rule)), Fraction(*best(rule, mode)[0]))

    def test_the_way_of_the_plan(self):
        for holders, mode in product((1, 2, 3), MODES):
            for rule in dense_rules(holders, 20):
                told, plan = best(rule, mode)
                try:
                    way = way_by(holders, mode, plan)
                except TooMany:
                    continue
                self.assertTrue(keeps(way, rule))
                self.assertEqual(contrast(way, rule), told)

    def test_the_longest_call_of_four_holders(self):
        longest = 0
        for rule, mode in product([of_size(4, many) for many in (1, 2, 3, 4)] + dense_rules(4, 40), MODES):
            for function in (best, prices):
                start = perf_counter()
                function(rule, mode)
                longest = max(longest, perf_counter() - start)
        self.assertLess(longest, 10)

    def test_too_many_holders(self):
        for rule in [of_size(5, many) for many in range(1, 6)] + [(5, (), ()), (5, ((0,),), ())]:
            for mode in MODES + (None, "even", 7, ()):
                for call in [lambda: best(rule, mode), lambda: prices(rule, mode), lambda: bound_of(rule, mode, ()),
                             lambda: bound_of(rule, mode, ((0, 1),) * 32), lambda: bound_of(rule, mode, None)]:
                    with self.assertRaises(TooMany) as caught:
                        call()
                    self.assertEqual(caught.exception.limit, 4)

    def test_equal_calls_and_arguments(self):
        for holders, mode in product((1, 2, 3, 4), MODES):
            for rule in dense_rules(holders, 5):
                words = repr(rule)
                self.assertEqual(repr(best(rule, mode)), repr(best(rule, mode)))
                self.assertEqual(repr(prices(rule, mode)), repr(prices(rule, mode)))
                self.assertEqual(repr(rule), words)

    def test_by_names(self):
        self.assertEqual(best(rule=R, mode="any")[0], (1, 2))
        self.assertEqual(best(mode="any", rule=R), best(R, "any"))
        self.assertEqual(prices(rule=R, mode="any"), prices(R, "any"))


class BoundOfTest(unittest.TestCase):

    def check(self, rule, mode, value):
        """Compare with the document's words, for a tuple of as many fractions as there are groups."""
        wanted = plain_bound(rule, mode, value)
        self.assertEqual(repr(bound_of(rule, mode, value)), repr(None if wanted == "none" else wanted),
                         (rule, mode, value))
        return wanted

    def test_prices_with_one_otherwise(self):
        for holders, mode in product((1, 2, 3, 4), MODES):
            for rule in dense_rules(holders, 3 if holders == 4 else 6):
                right = prices(rule, mode)
                for at in range(len(right)):
                    for change in (Fraction(-1), Fraction(1), Fraction(1, 7), Fraction(-1, 2), -Fraction(*right[at])):
                        other = right[:at] + (pair(Fraction(*right[at]) + change),) + right[at + 1:]
                        self.check(rule, mode, other)

    def test_prices_made_lesser_and_greater(self):
        for holders, mode in product((1, 2, 3, 4), MODES):
            for rule in dense_rules(holders, 4):
                told, right = Fraction(*best(rule, mode)[0]), prices(rule, mode)
                for times in (Fraction(1, 2), Fraction(2, 3), Fraction(1, 10 ** 20)):
                    lesser = tuple(pair(Fraction(*price) * times) for price in right)
                    self.assertEqual(bound_of(rule, mode, lesser), pair(told / times))
                for times in (2, Fraction(3, 2), -1):
                    self.assertIsNone(bound_of(rule, mode, tuple(pair(Fraction(*price) * times) for price in right)))

    def test_prices_of_small_numbers(self):
        told = [(0, 1), (1, 1), (-1, 1), (1, 2), (2, 1)]
        for rule, mode in product([of_size(2, 2), of_size(2, 1), (2, ((0,),), ((1,),)), (2, ((0, 1),), ())], MODES):
            found = {self.check(rule, mode, value) for value in product(told, repeat=4)}
            self.assertIn("none", found)
            self.assertIn(None, found)
            bounds = [Fraction(*bound) for bound in found if bound not in (None, "none")]
            self.assertGreaterEqual(min(bounds), Fraction(*best(rule, mode)[0]))

    def test_no_fraction(self):
        rule = of_size(2, 2)
        right = prices(rule, "any")
        self.assertEqual(bound_of(rule, "any", right), (1, 2))
        wrong = [None, 0, 1, "", "12", (), (0,), (0, 1, 1), [0, 1], (0, 0), (0, -1), (0, 2), (2, 2), (2, 4), (-2, 4),
                 (False, 1), (0, True), (True, 1), (1, True), (None, 1), (0, None), ("0", 1), ((0,), 1), {0: 0, 1: 1},
                 (1, -1), (-1, -1), (0, 10 ** 59)]
        for at in range(4):
            for price in wrong:
                self.assertIsNone(bound_of(rule, "any", right[:at] + (price,) + right[at + 1:]), (at, price))

    def test_another_number_of_prices(self):
        for holders in (1, 2, 3, 4):
            rule = of_size(holders, 1)
            right = prices(rule, "any")
            for value in [right[:-1], right + ((0, 1),), right * 2, list(right), [list(price) for price in right],
                          tuple(list(price) for price in right), {at: price for at, price in enumerate(right)}, right[1:],
                          (right,)]:
                self.assertIsNone(bound_of(rule, "any", value))

    def test_any_value(self):
        for rule in (of_size(1, 1), of_size(2, 2), R, of_size(4, 2)):
            for value in any_values():
                self.assertIsNone(bound_of(rule, "any", value))
                self.assertIsNone(bound_of(rule, "any", (value,) * 2 ** rule[0]))
                self.assertIsNone(bound_of(rule, "odd", ((value, 1),) * 2 ** rule[0]))
        for value in plain_values():
            words = repr(value)
            bound_of(R, "any", (value,) * 8)
            self.assertEqual(repr(value), words)

    def test_a_sum_of_nothing(self):
        for holders, mode in product((1, 2, 3, 4), MODES):
            self.assertIsNone(bound_of(of_size(holders, holders), mode, ((0, 1),) * 2 ** holders))
            # All of the price may be that of ().
            self.assertIsNone(bound_of(of_size(holders, 1), mode, ((1, 1),) + ((0, 1),) * (2 ** holders - 1)))

    def test_groups_that_are_no_shows_and_in_no_hide(self):
        rule = (2, ((0, 1),), ((0,),))
        self.assertEqual(bound_of(rule, "any", ((0, 1), (0, 1), (1, 1), (0, 1))), (1, 1))
        self.assertIsNone(bound_of(rule, "any", ((0, 1), (0, 1), (1, 2), (1, 2))))
        self.assertEqual(bound_of((2, ((0, 1),), ((0,), (1,))), "any", ((0, 1), (0, 1), (1, 2), (1, 2))), (2, 1))

    def test_shows_below_nothing(self):
        rule = (2, ((0,), (0, 1)), ())
        self.assertIsNone(bound_of(rule, "any", ((1, 2), (1, 2), (-1, 4), (0, 1))))
        self.assertEqual(bound_of(rule, "any", ((1, 4), (1, 2), (1, 4), (0, 1))), (4, 3))

    def test_the_prices_told_are_none_but_for_shows_and_hides(self):
        for holders, mode in product((1, 2, 3, 4), MODES):
            for rule in dense_rules(holders, 10):
                for group, price in zip(all_groups(holders), prices(rule, mode)):
                    if group not in rule[1] and group not in plain_hidden(rule):
                        self.assertEqual(repr(price), "(0, 1)")

    def test_great_fractions(self):
        great = 10 ** 60 - 1
        value = ((0, 1), (1, great))
        self.assertEqual(bound_of((1, ((0,),), ()), "any", value), (great, 1))
        self.assertEqual(bound_of((1, ((0,),), ()), "any", ((1, great), (great - 1, great))), (great, great - 1))
        self.assertIsNone(bound_of((1, ((0,),), ()), "any", ((2, great), (great - 1, great))))
        self.assertIsNone(bound_of((1, ((0,),), ()), "any", ((1, great - 1), (great - 1, great))))

    def test_by_names(self):
        self.assertEqual(bound_of(rule=(1, ((0,),), ()), mode="any", value=((0, 1), (1, 1))), (1, 1))


if __name__ == "__main__":
    unittest.main()
