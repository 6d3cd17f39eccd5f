"""Promises 8 and 9: tables and ways by their light, slim ways; promise 2 (b) and (c)."""

import random
import unittest
from collections import Counter
from itertools import combinations, product

from clearsheets.drafts import slim, table_of, way_of
from clearsheets.errors import TooMany
from tests.plainly import (HOLDERS, MODES, all_groups, all_tables, plain_gains, plain_lights, some_table, some_way,
                           some_ways)
from tests.sessions import run_session

SESSION = """
>>> from clearsheets.drafts import slim, table_of, way_of
>>> way_of(2, "any", (0, 0, 1, 0)) == W, way_of(2, "odd", (0, 0, 1, 0)), way_of(2, "odd", (0, 0, 2, 0)), table_of(2, "any", (2, 1, 0, 1))
(True, None, (2, 'odd', (((), (0, 1)), ((0,), (1,)))), ((0,), (1,)))
>>> table_of(2, "any", (2, 1, 2, 1)), way_of(1, "any", (0, 0)), slim((1, "any", (((), (0,), (0,)), ((), (), (0,)))))
(None, (1, 'any', (((),), ((),))), (1, 'any', (((0,),), ((),))))
"""


def plain_slim(way):
    """Return the way without what its tables have in common, counted dot by dot."""
    holders, mode, tables = way
    shared = Counter(tables[0])
    for table in tables[1:]:
        shared = shared & Counter(table)
    left = [tuple(sorted((Counter(table) - shared).elements())) for table in tables]
    return (holders, mode, tuple(left)) if left[0] else (holders, mode, (((),),) * len(tables))


def without_shared(way):
    """Return whether no dot stands in all tables of the way."""
    return not set(way[2][0]).intersection(*way[2][1:])


class SessionTest(unittest.TestCase):

    def test_examples(self):
        run_session(self, SESSION)


class TableOfTest(unittest.TestCase):

    def check_back(self, holders, mode, table):
        wanted = plain_lights(holders, mode, table)
        self.assertEqual(repr(table_of(holders, mode, wanted)), repr(table), (holders, mode))

    def test_tables_of_one_dot(self):
        for holders, mode in product(HOLDERS, MODES):
            for group in all_groups(holders):
                self.check_back(holders, mode, (group,))

    def test_small_tables(self):
        for holders, mode, many in product((1, 2, 3), MODES, (2, 3)):
            for table in all_tables(holders, many):
                self.check_back(holders, mode, table)

    def test_tables_drawn_by_chance(self):
        chance = random.Random(1)
        for holders, mode, many in product(HOLDERS, MODES, (4, 7, 30, 399, 400)):
            self.check_back(holders, mode, some_table(chance, holders, many))

    def test_great_tables_of_equal_dots(self):
        for holders, mode in product(HOLDERS, MODES):
            self.check_back(holders, mode, ((),) * 400)
            self.check_back(holders, mode, (tuple(range(holders)),) * 400)

    def test_all_lights_of_few_dots(self):
        for holders, mode in product((1, 2), MODES):
            known = {plain_lights(holders, mode, table): table
                     for many in (1, 2, 3) for table in all_tables(holders, many)}
            for wanted in product((1, 2, 3), *[(0, 1, 2, 3, 4)] * (2 ** holders - 1)):
                found = table_of(holders, mode, wanted)
                self.assertEqual(repr(found), repr(known.get(wanted)), (holders, mode, wanted))

    def test_one_number_otherwise(self):
        chance = random.Random(2)
        for holders, mode, many in product(HOLDERS, MODES, (1, 3, 40)):
            wanted = list(plain_lights(holders, mode, some_table(chance, holders, many)))
            for at in range(len(wanted)):
                for change in (-1, 1):
                    other = wanted[:at] + [wanted[at] + change] + wanted[at + 1:]
                    if other[0] >= 1 and min(other) >= 0:
                        found = table_of(holders, mode, tuple(other))
                        if found is not None:
                            self.assertEqual(plain_lights(holders, mode, found), tuple(other))
                        if mode == "odd" and holders > 1:
                            # One light alone changes each dot's share by less than a whole.
                            self.assertIsNone(found)

    def test_lights_turned_round(self):
        chance = random.Random(3)
        for holders, mode in product(HOLDERS, MODES):
            table = some_table(chance, holders, 9)
            wanted = plain_lights(holders, mode, table)[::-1]
            if wanted[0] == 0:
                continue
            found = table_of(holders, mode, wanted)
            if max(wanted) > wanted[0]:
                self.assertIsNone(found)
            elif found is not None:
                self.assertEqual(plain_lights(holders, mode, found), wanted)

    def test_lights_turned_round_that_are_none(self):
        self.assertIsNone(table_of(1, "any", (1, 2)))
        self.assertIsNone(table_of(1, "odd", (1, 2)))
        self.assertIsNone(table_of(2, "any", (1, 0, 1, 2)))
        self.assertIsNone(table_of(2, "odd", (1, 0, 1, 2)))

    def test_lights_all_alike(self):
        # All light comes through where no dot is black.
        for holders, mode, many in product(HOLDERS, MODES, (1, 2, 400)):
            self.assertEqual(table_of(holders, mode, (many,) * 2 ** holders), ((),) * many)

    def test_no_light_but_for_nobody(self):
        for holders, many in product(HOLDERS, (1, 2, 400)):
            dark = (many,) + (0,) * (2 ** holders - 1)
            self.assertEqual(table_of(holders, "any", dark), (tuple(range(holders)),) * many)
            self.assertEqual(table_of(holders, "odd", dark), ((0,),) * many if holders == 1 else None)

    def test_more_light_than_dots(self):
        for holders, mode in product(HOLDERS, MODES):
            self.assertIsNone(table_of(holders, mode, (1,) + (2,) * (2 ** holders - 1)))
            self.assertIsNone(table_of(holders, mode, (1,) + (400,) * (2 ** holders - 1)))

    def test_lights_that_are_not_whole(self):
        self.assertIsNone(table_of(2, "odd", (1, 1, 0, 1)))
        self.assertIsNone(table_of(2, "odd", (2, 1, 1, 1)))
        self.assertEqual(table_of(2, "odd", (2, 1, 1, 2)), ((), (0,)))
        self.assertEqual(table_of(2, "odd", (2, 1, 2, 1)), ((), (0, 1)))
        self.assertEqual(table_of(2, "any", (2, 1, 1, 1)), ((), (0, 1)))

    def test_unlike_tables_have_unlike_lights(self):
        for holders, mode, many in product((1, 2, 3), MODES, (1, 2, 3)):
            tables = all_tables(holders, many)
            self.assertEqual(len({plain_lights(holders, mode, table) for table in tables}), len(tables))

    def test_by_names(self):
        self.assertEqual(table_of(holders=2, mode="any", wanted=(2, 1, 0, 1)), ((0,), (1,)))
        self.assertIsNone(table_of(wanted=(2, 1, 2, 1), mode="any", holders=2))


class WayOfTest(unittest.TestCase):

    def check_way(self, holders, mode, wanted):
        """Check that the way has these gains and no dot in both tables, so that none has fewer dots."""
        way = way_of(holders, mode, wanted)
        self.assertEqual(way[:2], (holders, mode))
        self.assertEqual(plain_gains(way), wanted)
        if any(wanted):
            self.assertTrue(without_shared(way), way)
        for table in way[2]:
            self.assertEqual(table, tuple(sorted(table)))
        return way

    def test_gains_of_small_ways(self):
        for holders, mode in product((1, 2), MODES):
            fewest = {}
            for many in (1, 2, 3):
                for pair in product(all_tables(holders, many), repeat=2):
                    fewest.setdefault(plain_gains((holders, mode, pair)), (holders, mode, pair))
            for wanted, way in fewest.items():
                self.assertEqual(repr(way_of(holders, mode, wanted)), repr(way))

    def test_all_small_gains(self):
        for holders in (1, 2):
            for rest in product(range(-3, 4), repeat=2 ** holders - 1):
                self.check_way(holders, "any", (0,) + rest)

    def test_gains_drawn_by_chance_in_mode_any(self):
        chance = random.Random(4)
        for holders in (3, 4, 5):
            for _ in range(20):
                rest = [chance.choice((0, 0, 0, 0, 1, -1, 2)) for _ in range(2 ** holders - 1)]
                try:
                    self.check_way(holders, "any", (0, *rest))
                except TooMany as error:
                    self.fail((rest, error.limit))

    def test_gains_of_ways(self):
        for way in some_ways(each=8, tones=(2,), most=30):
            holders, mode, _ = way
            self.assertEqual(repr(way_of(holders, mode, plain_gains(way))), repr(plain_slim(way)))

    def test_no_gains(self):
        for holders, mode in product(HOLDERS, MODES):
            self.assertEqual(way_of(holders, mode, (0,) * 2 ** holders), (holders, mode, (((),), ((),))))

    def test_gains_of_no_way(self):
        # In mode "odd" one gain alone is shared by all dots.
        for holders in HOLDERS[1:]:
            many = 2 ** holders
            for at in range(1, many):
                for gain in (1, -1, many // 2 - 1, many // 2 + 1, 10 ** 60 - 1, 1 - 10 ** 60):
                    wanted = [0] * many
                    wanted[at] = gain
                    self.assertIsNone(way_of(holders, "odd", tuple(wanted)), wanted)
                wanted[at] = many // 2
                self.check_way(holders, "odd", tuple(wanted))

    def test_gains_of_which_some_dots_would_be_whole(self):
        for holders in (3, 4, 5):
            for one, other in combinations(range(1, 2 ** holders), 2):
                wanted = tuple(1 if at in (one, other) else 0 for at in range(2 ** holders))
                self.assertIsNone(way_of(holders, "odd", wanted))
                self.assertIsNone(table_of(holders, "odd", tuple(9 - gain for gain in wanted)))

    def test_one_holder(self):
        for mode in MODES:
            self.assertEqual(way_of(1, mode, (0, 1)), (1, mode, (((),), ((0,),))))
            self.assertEqual(way_of(1, mode, (0, -2)), (1, mode, (((0,), (0,)), ((), ()))))

    def check_too_many(self, holders, mode, wanted):
        with self.assertRaises(TooMany) as caught:
            way_of(holders, mode, wanted)
        self.assertEqual(caught.exception.limit, 400)

    def test_as_many_dots_as_there_may_be_and_one_more(self):
        for holders, mode in product(HOLDERS, MODES):
            # One dot of a tone that has nothing black, and of one that has all black.
            step = plain_gains((holders, mode, (((),), (tuple(range(holders)),))))
            full = self.check_way(holders, mode, tuple(400 * gain for gain in step))
            self.assertEqual(len(full[2][0]), 400)
            self.assertEqual(full[2], (((),) * 400, (tuple(range(holders)),) * 400))
            self.check_too_many(holders, mode, tuple(401 * gain for gain in step))
            self.check_too_many(holders, mode, tuple(-401 * gain for gain in step))

    def test_great_ways_of_many_unlike_dots(self):
        chance = random.Random(5)
        for holders, mode in product((3, 4, 5), MODES):
            while True:
                way = plain_slim(some_way(chance, holders, mode, 2, 90))
                if len(way[2][0]) > 1:
                    break
            times, many = 400 // len(way[2][0]), len(way[2][0])
            found = self.check_way(holders, mode, tuple(times * gain for gain in plain_gains(way)))
            self.assertEqual(len(found[2][1]), times * many)
            self.check_too_many(holders, mode, tuple((times + 1) * gain for gain in plain_gains(way)))

    def test_very_many_dots(self):
        for holders in HOLDERS:
            great = 2 ** holders * 10 ** 50
            for mode in MODES:
                self.check_too_many(holders, mode, (0,) + (great,) * (2 ** holders - 1))
                self.check_too_many(holders, mode, (0,) + (-great,) * (2 ** holders - 1))
                self.check_too_many(holders, mode, (0, great) + (0,) * (2 ** holders - 2))

    def test_none_ahead_of_too_many(self):
        self.assertIsNone(way_of(2, "odd", (0, 10 ** 59 + 1, 0, 0)))
        self.assertIsNone(way_of(5, "odd", (0,) + (10 ** 59 + 1,) + (0,) * 30))

    def test_by_names(self):
        self.assertEqual(way_of(holders=2, mode="odd", wanted=(0, 0, 2, 0)), (2, "odd", (((), (0, 1)), ((0,), (1,)))))
        self.assertIsNone(way_of(wanted=(0, 0, 1, 0), mode="odd", holders=2))


class SlimTest(unittest.TestCase):

    def check(self, way, wanted):
        self.assertEqual(repr(slim(way)), repr(wanted))

    def test_ways_drawn_by_chance(self):
        for way in some_ways(most=25):
            self.check(way, plain_slim(way))
            self.check(slim(way), plain_slim(way))

    def test_dots_in_common_several_times(self):
        self.check((1, "any", (((), (), (), (0,)), ((), (), (0,), (0,)))), (1, "any", (((),), ((0,),))))
        self.check((1, "odd", (((0,), (0,), (0,)), ((), (0,), (0,)))), (1, "odd", (((0,),), ((),))))

    def test_nothing_in_common(self):
        for way in [(2, "any", (((), ()), ((0,), (1,)))), (2, "odd", (((0,), (0, 1)), ((), (1,))))]:
            self.check(way, way)

    def test_in_common_to_some_tables_alone(self):
        way = (2, "any", (((), (0,)), ((), (1,)), ((0,), (1,))))
        self.check(way, way)
        self.check((2, "any", (((), (0,)), ((), (1,)), ((), (0,)))), (2, "any", (((0,),), ((1,),), ((0,),))))

    def test_nothing_left(self):
        for holders, mode, tones, many in product(HOLDERS, MODES, (2, 3, 4), (1, 2, 400)):
            table = (tuple(range(holders)),) * many
            self.check((holders, mode, (table,) * tones), (holders, mode, (((),),) * tones))

    def test_great_ways(self):
        self.check((5, "any", (((),) * 399 + ((1,),), ((),) * 398 + ((0, 1),) * 2)),
                   (5, "any", (((), (1,)), ((0, 1), (0, 1)))))

    def test_by_name(self):
        self.assertEqual(slim(way=(1, "any", (((), (0,)), ((), ())))), (1, "any", (((0,),), ((),))))


class UnchangedTest(unittest.TestCase):

    def test_equal_calls_and_arguments(self):
        for way in some_ways(each=3, tones=(2,)):
            holders, mode, tables = way
            lit, gained = plain_lights(holders, mode, tables[0]), plain_gains(way)
            words = repr((way, lit, gained))
            for function, arguments in [(table_of, (holders, mode, lit)), (way_of, (holders, mode, gained)),
                                        (slim, (way,))]:
                self.assertEqual(repr(function(*arguments)), repr(function(*arguments)))
            self.assertEqual(repr((way, lit, gained)), words)


if __name__ == "__main__":
    unittest.main()
