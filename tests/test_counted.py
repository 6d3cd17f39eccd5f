"""Promise 15: the fewest dots."""

import unittest
from itertools import product

from clearsheets.best import best
from clearsheets.counted import fewest
from clearsheets.errors import TooMany
from clearsheets.rules import keeps, of_size, opening
from clearsheets.ways import way_error
from tests.plainly import (MODES, all_groups, all_tables, near_rules, part_of, plain_hidden, plain_keeps, plain_lights,
                           some_rules)
from tests.sessions import run_session
from tests.values import R

SESSION = """
>>> from clearsheets.counted import fewest
>>> from clearsheets.rules import of_size
>>> fewest(of_size(3, 3), "any")[0], fewest(of_size(3, 3), "odd")[0], fewest(of_size(3, 2), "any")[0], fewest((1, (), ()), "any")[0]
(4, 4, 3, 1)
"""
LIT = {(holders, mode, many): [dict(zip(all_groups(holders), plain_lights(holders, mode, table)))
                               for table in all_tables(holders, many)]
       for holders in (1, 2, 3) for mode in MODES for many in (1, 2, 3)}


def is_kept_by_some(rule, mode, many):
    """Return whether some way with so many dots keeps the rule."""
    hidden, lots = plain_hidden(rule), {}
    for lit in LIT[rule[0], mode, many]:
        lots.setdefault(tuple(lit[group] for group in hidden), []).append([lit[group] for group in rule[1]])
    return any(all(one > other for one, other in zip(white, black))
               for lot in lots.values() for white, black in product(lot, repeat=2))


class SessionTest(unittest.TestCase):

    def test_examples(self):
        run_session(self, SESSION)


class FewestTest(unittest.TestCase):

    def check(self, rule, mode):
        number, way = fewest(rule, mode)
        self.assertIs(type(number), int)
        self.assertIsNone(way_error(way))
        self.assertEqual(way[:2], (rule[0], mode))
        self.assertEqual([len(table) for table in way[2]], [number, number])
        self.assertTrue(plain_keeps(way, rule), (rule, way))
        self.assertTrue(keeps(way, rule))
        self.assertLessEqual(number, 4)
        for less in range(1, number):
            self.assertFalse(is_kept_by_some(rule, mode, less), (rule, mode, less))
        if rule[1]:
            top, bottom = best(rule, mode)[0]
            self.assertGreaterEqual(number * top, bottom)
        return number

    def test_rules_of_one_to_three_holders(self):
        for holders, mode in product((1, 2, 3), MODES):
            for rule in near_rules(holders) + some_rules(holders, 40):
                self.check(rule, mode)

    def test_all_shows_that_may_be(self):
        for holders, mode in product((1, 2, 3), MODES):
            for rule in near_rules(holders):
                free = tuple(group for group in all_groups(holders)[1:]
                             if not any(part_of(group, hide) for hide in rule[2]))
                self.check((holders, free, rule[2]), mode)

    def test_small_rules_by_all_ways(self):
        # The plainest search, by what keeps means alone.
        for mode in MODES:
            for rule in near_rules(2):
                number = fewest(rule, mode)[0]
                found = [many for many in (1, 2) for tables in product(all_tables(2, many), repeat=2)
                         if plain_keeps((2, mode, tables), rule)]
                self.assertEqual(number, min(found))

    def test_known_numbers(self):
        for mode in MODES:
            for holders in (1, 2, 3):
                self.assertEqual(self.check(of_size(holders, holders), mode), 2 ** (holders - 1))
        self.assertEqual([self.check(of_size(3, many), "any") for many in (1, 2, 3)], [1, 3, 4])
        self.assertEqual([self.check(of_size(3, many), "odd") for many in (1, 2, 3)],
                         [3, fewest(of_size(3, 2), "odd")[0], 4])
        self.assertEqual(self.check(of_size(2, 1), "odd"), 2)
        self.assertEqual(self.check(opening(3, ((0, 2),)), "any"), 2)
        self.assertEqual(self.check(R, "any"), 2)

    def test_without_shows(self):
        for holders, mode in product((1, 2, 3), MODES):
            every = tuple(all_groups(holders))
            for hides in [(), ((),), every[-1:], every]:
                self.assertEqual(self.check((holders, (), hides), mode), 1)

    def test_too_many_holders(self):
        for holders, mode in product((4, 5), MODES):
            for rule in [(holders, (), ()), (holders, (), ((),)), of_size(holders, 1), of_size(holders, holders),
                         (holders, ((0,),), ()), (holders, (), (tuple(range(holders)),))]:
                with self.assertRaises(TooMany) as caught:
                    fewest(rule, mode)
                self.assertEqual(caught.exception.limit, 3)

    def test_equal_calls_and_arguments(self):
        for holders, mode in product((1, 2, 3), MODES):
            for rule in some_rules(holders, 10):
                words = repr(rule)
                self.assertEqual(repr(fewest(rule, mode)), repr(fewest(rule, mode)))
                self.assertEqual(repr(rule), words)

    def test_by_names(self):
        self.assertEqual(fewest(rule=R, mode="any"), fewest(R, "any"))


if __name__ == "__main__":
    unittest.main()
