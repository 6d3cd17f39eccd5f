"""Promises 16 and 17: ways made of ways."""

import random
import unittest
from itertools import permutations, product

from clearsheets.errors import TooMany
from clearsheets.lights import gains, light
from clearsheets.making import beside, exchanged, handed, merged, toned, without
from clearsheets.rules import keeps, of_size
from clearsheets.ways import way_error
from tests.plainly import (HOLDERS, MODES, TONES, all_groups, plain_dark, plain_gains, plain_light, some_table,
                           some_way, some_ways)
from tests.sessions import run_session
from tests.values import H, V, W

SESSION = """
>>> from clearsheets.lights import gains
>>> from clearsheets.making import beside, exchanged, handed, merged, toned, without
>>> from clearsheets.rules import keeps, of_size
>>> gains(beside(W, W)), merged(W, ((0, 1), (), (1,)))[2][0], without(W, 0)[2], toned(W, (1, 0, 1))[2][0], exchanged(V, (1, 0))[2][1]
((0, 0, 2, 0), ((), (0, 2)), (((), (0,)), ((), (0,))), ((0,), (1,)), ((0, 1), (1,)))
>>> handed(W, 0, W) == H, gains(H), keeps(H, of_size(3, 3))
(True, (0, 0, 0, 1, 0, 0, 0, 0), True)
"""
WAYS = some_ways()


def remade(way, holders, function):
    """Return the way with each dot made another one by the function."""
    _, mode, tables = way
    return (holders, mode, tuple(tuple(sorted(tuple(sorted(function(dot))) for dot in table)) for table in tables))


def great_way(holders, mode, many, tones=2):
    chance = random.Random(many)
    return (holders, mode, tuple(some_table(chance, holders, many) for _ in range(tones)))


class MakingTest(unittest.TestCase):

    def check(self, found, wanted):
        self.assertEqual(repr(found), repr(wanted))
        self.assertIsNone(way_error(found))

    def check_too_many(self, limit, function, *arguments):
        with self.assertRaises(TooMany) as caught:
            function(*arguments)
        self.assertEqual(caught.exception.limit, limit)


class SessionTest(unittest.TestCase):

    def test_examples(self):
        run_session(self, SESSION)


class BesideTest(MakingTest):

    def test_ways(self):
        chance = random.Random(51)
        for way in WAYS:
            holders, mode, tables = way
            other = some_way(chance, holders, mode, len(tables), chance.randint(1, 6))
            wanted = tuple(tuple(sorted(one + two)) for one, two in zip(tables, other[2]))
            self.check(beside(way, other), (holders, mode, wanted))
            self.check(beside(other, way), (holders, mode, wanted))

    def test_a_way_and_itself(self):
        for way in WAYS:
            found = beside(way, way)
            self.check(found, (way[0], way[1], tuple(tuple(dot for dot in table for _ in range(2)) for table in way[2])))
            self.assertEqual(gains(found), tuple(2 * gain for gain in plain_gains(way)))

    def test_just_as_many_dots_as_there_may_be_and_one_more(self):
        for holders, mode, tones in product(HOLDERS, MODES, TONES):
            for one, other in [(200, 200), (399, 1), (1, 399)]:
                found = beside(great_way(holders, mode, one, tones), great_way(holders, mode, other, tones))
                self.assertIsNone(way_error(found))
                self.assertEqual(len(found[2][0]), 400)
            for one, other in [(200, 201), (400, 1), (1, 400), (400, 400)]:
                self.check_too_many(400, beside, great_way(holders, mode, one, tones),
                                    great_way(holders, mode, other, tones))

    def test_by_names(self):
        self.check(beside(one=(1, "any", (((),), ((0,),))), other=(1, "any", (((0,),), ((),)))),
                   (1, "any", (((), (0,)), ((), (0,)))))


class ExchangedTest(MakingTest):

    def check_order(self, way, order):
        wanted = remade(way, way[0], lambda dot: [holder for holder in range(way[0]) if order[holder] in dot])
        self.check(exchanged(way, order), wanted)

    def test_all_orders(self):
        for way in WAYS:
            orders = list(permutations(range(way[0])))
            for order in orders if way[0] < 5 else orders[::17]:
                self.check_order(way, order)

    def test_an_order_that_is_not_its_own_reverse(self):
        way = (3, "any", (((0,), (0,), (1, 2)), ((), (1,), (2,))))
        # Holder 0 has the sheet of holder 1, who has that of holder 2.
        self.check(exchanged(way, (1, 2, 0)), (3, "any", (((0, 1), (2,), (2,)), ((), (0,), (1,)))))

    def test_what_groups_see(self):
        for way in some_ways(each=3, holders=(3,)):
            for order in permutations(range(3)):
                found = exchanged(way, order)
                for group in all_groups(3):
                    other = tuple(sorted(order[holder] for holder in group))
                    self.assertEqual(light(found, 0, group), light(way, 0, other))

    def test_by_names(self):
        self.check(exchanged(way=V, order=(1, 0)), exchanged(V, (1, 0)))
        self.check(exchanged(way=V, order=(0, 1)), V)


class TonedTest(MakingTest):

    def test_ways(self):
        for way in WAYS:
            for many in (2, 3, 4):
                for tones in product(range(len(way[2])), repeat=many):
                    found = toned(way, tones)
                    self.assertEqual(found, (way[0], way[1], tuple(way[2][tone] for tone in tones)))
                    self.assertIs(type(found[2]), tuple)
            self.check(toned(way, (1, 0)), (way[0], way[1], (way[2][1], way[2][0])))

    def test_all_tones_in_order(self):
        for way in WAYS:
            self.check(toned(way, tuple(range(len(way[2])))), way)

    def test_by_names(self):
        self.check(toned(way=W, tones=(1, 1)), (2, "any", (W[2][1], W[2][1])))


class WithoutTest(MakingTest):

    def test_each_holder(self):
        for way in some_ways(holders=HOLDERS[1:]):
            for holder in range(way[0]):
                wanted = remade(way, way[0] - 1,
                                lambda dot: [item - (item > holder) for item in dot if item != holder])
                self.check(without(way, holder), wanted)

    def test_dots_in_another_order(self):
        way = (3, "odd", (((0, 2), (1,)), ((), (0, 1, 2))))
        self.check(without(way, 0), (2, "odd", (((0,), (1,)), ((), (0, 1)))))
        self.check(without(way, 1), (2, "odd", (((), (0, 1)), ((), (0, 1)))))
        self.check(without(way, 2), (2, "odd", (((0,), (1,)), ((), (0, 1)))))

    def test_by_names(self):
        self.check(without(way=W, holder=1), (1, "any", (((), (0,)), ((), (0,)))))


class MergedTest(MakingTest):

    def check_lots(self, way, lots):
        wanted = remade(way, len(lots),
                        lambda dot: [number for number, lot in enumerate(lots) if plain_dark(way[1], dot, lot)])
        self.check(merged(way, lots), wanted)

    def test_lots_drawn_by_chance(self):
        chance = random.Random(61)
        for way in WAYS:
            every = all_groups(way[0])
            for many in (1, 2, 3, 4, 5):
                self.check_lots(way, tuple(chance.choice(every) for _ in range(many)))

    def test_lots_in_common_and_twice(self):
        for way in some_ways(holders=(3,)):
            for lots in [((0, 1), (1, 2)), ((0, 1), (0, 1)), ((2,), (0, 1, 2), (2,)), ((1,), (0,), (0, 1)),
                         ((0, 1, 2),) * 5, ((2,), (1,), (0,))]:
                self.check_lots(way, lots)

    def test_empty_lots(self):
        for way in WAYS:
            many = len(way[2][0])
            for count in (1, 5):
                self.check(merged(way, ((),) * count), (count, way[1], (((),) * many,) * len(way[2])))

    def test_each_holder_alone(self):
        for way in WAYS:
            self.check(merged(way, tuple((holder,) for holder in range(way[0]))), way)

    def test_the_modes_are_unlike(self):
        tables = (((0, 1),), ((0,),))
        self.check(merged((2, "any", tables), ((0, 1),)), (1, "any", (((0,),), ((0,),))))
        self.check(merged((2, "odd", tables), ((0, 1),)), (1, "odd", (((),), ((0,),))))

    def test_what_merged_holders_see(self):
        for way in some_ways(each=3, holders=(4,)):
            holders, mode, tables = way
            found = merged(way, ((0, 3), (1,), (2,)))
            for group in [(0,), (0, 1), (0, 2), (0, 1, 2)]:
                sheets = tuple(sorted({0: (0, 3), 1: (1,), 2: (2,)}[holder] for holder in group))
                self.assertEqual(light(found, 1, group), plain_light(mode, tables[1], sum(sheets, ())))

    def test_great_ways(self):
        way = great_way(5, "odd", 400)
        self.check_lots(way, ((0, 1), (2, 3, 4), (), (0, 4), (0, 1, 2, 3, 4)))

    def test_by_names(self):
        self.check(merged(way=W, lots=((0, 1), (), (1,))), merged(W, ((0, 1), (), (1,))))


class HandedTest(MakingTest):

    def check_handed(self, outer, holder, inner):
        others = [item for item in range(outer[0]) if item != holder]
        tables = []
        for table in outer[2]:
            found = []
            for dot in table:
                for part in inner[2][1 if holder in dot else 0]:
                    sheets = [(1, other) for other in dot if other != holder] + [(2, item) for item in part]
                    names = [(1, other) for other in others] + [(2, item) for item in range(inner[0])]
                    found.append(tuple(sorted(names.index(sheet) for sheet in sheets)))
            tables.append(tuple(sorted(found)))
        self.check(handed(outer, holder, inner), (outer[0] - 1 + inner[0], outer[1], tuple(tables)))

    def test_ways(self):
        chance = random.Random(71)
        for mode, first, second in product(MODES, HOLDERS, HOLDERS):
            if first + second > 6:
                continue
            for _ in range(5):
                outer = some_way(chance, first, mode, 2, chance.randint(1, 4))
                inner = some_way(chance, second, mode, 2, chance.randint(1, 4))
                for holder in range(first):
                    self.check_handed(outer, holder, inner)

    def test_equal_ways_and_equal_tones(self):
        for mode in MODES:
            way = (2, mode, W[2])
            for holder in (0, 1):
                self.check_handed(way, holder, way)
                self.check_handed(way, holder, (2, mode, (W[2][0], W[2][0])))
                self.check_handed((2, mode, (W[2][1], W[2][1])), holder, way)

    def test_shared_secrets_of_shared_secrets(self):
        found = W
        for holders in (3, 4, 5):
            found = handed(found, holders - 3, W)
            self.assertTrue(keeps(found, of_size(holders, holders)))

    def test_who_sees(self):
        # The inner holders together have the outer holder's sheet, turned over as inner turns it.
        outer, inner = (2, "odd", W[2]), (2, "odd", W[2])
        found = handed(outer, 1, inner)
        self.assertEqual(gains(found), (0, 0, 0, 4, 0, 0, 0, 0))

    def test_too_many_holders(self):
        for mode, first, second in product(MODES, HOLDERS, HOLDERS):
            outer, inner = great_way(first, mode, 2), great_way(second, mode, 2)
            wide_outer, wide_inner = great_way(first, mode, 400), great_way(second, mode, 400)
            if first + second <= 6:
                self.check_handed(outer, 0, inner)
                self.check_too_many(400, handed, wide_outer, 0, wide_inner)
            else:
                self.check_too_many(5, handed, outer, first - 1, inner)
                # Ahead of too many dots.
                self.check_too_many(5, handed, wide_outer, 0, wide_inner)

    def test_just_as_many_dots_as_there_may_be_and_one_more(self):
        for mode in MODES:
            for one, other in [(20, 20), (400, 1), (1, 400), (8, 50)]:
                self.check_handed(great_way(3, mode, one), 1, great_way(2, mode, other))
            for one, other in [(401 // 3, 3), (21, 20), (200, 3), (2, 201), (400, 2), (400, 400)]:
                if one * other > 400:
                    self.check_too_many(400, handed, great_way(2, mode, one), 0, great_way(3, mode, other))
                else:
                    self.check_handed(great_way(2, mode, one), 0, great_way(3, mode, other))

    def test_by_names(self):
        self.check(handed(outer=W, holder=0, inner=W), H)


class UnchangedTest(unittest.TestCase):

    def test_equal_calls_and_arguments(self):
        for way in some_ways(each=2, tones=(2,), holders=(2, 3)):
            order, lots = tuple(reversed(range(way[0]))), ((0, 1), (), (0, 1), (1,))
            words = repr((way, order, lots))
            for function, arguments in [(beside, (way, way)), (exchanged, (way, order)), (toned, (way, (1, 0, 0))),
                                        (without, (way, 0)), (merged, (way, lots)), (handed, (way, 1, way))]:
                self.assertEqual(repr(function(*arguments)), repr(function(*arguments)))
            self.assertEqual(repr((way, order, lots)), words)


if __name__ == "__main__":
    unittest.main()
