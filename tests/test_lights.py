"""Promises 6 and 7: what is seen and what is known; promise 2 (a)."""

import unittest
from itertools import combinations, product

from clearsheets.lights import blind, cut, gains, light, lights, shown, sighted, told, unlike_part
from tests.plainly import (HOLDERS, MODES, all_groups, part_of, plain_cut, plain_gains, plain_light, plain_lights,
                           plain_lots, plain_told, some_ways)
from tests.sessions import run_session
from tests.values import H, V, W

SESSION = """
>>> from clearsheets.lights import blind, cut, gains, light, lights, shown, sighted, told, unlike_part
>>> lights(W, 0), lights(W, 1), gains(W), cut(W, 0, (0,)), cut(W, 1, (0,))
((2, 1, 1, 1), (2, 1, 0, 1), (0, 0, 1, 0), ((), (0,)), ((), (0,)))
>>> told(W, (0,)), told(W, (0, 1)), shown(W, (0, 1)), blind(W), sighted(W), unlike_part(W, 0, 1, (0, 1)), light(W, 0, ())
(((0, 1),), ((0,), (1,)), ((0,), (1,)), ((0,), (1,)), ((0, 1),), (0, 1), 2)
>>> told(V, (1,)), shown(V, (0, 1)), unlike_part(V, 0, 1, (0, 1))
(((0,), (1,)), ((0, 1),), (1,))
"""
WAYS = some_ways()


def equal_way(holders, mode, tones, many=3):
    return (holders, mode, ((tuple(range(holders)),) * many,) * tones)


class SessionTest(unittest.TestCase):

    def test_examples(self):
        run_session(self, SESSION)


class LightTest(unittest.TestCase):

    def test_each_group_and_tone(self):
        for way in WAYS:
            holders, mode, tables = way
            for tone, table in enumerate(tables):
                for group in all_groups(holders):
                    found = light(way, tone, group)
                    self.assertEqual(repr(found), repr(plain_light(mode, table, group)), (way, tone, group))

    def test_no_sheets(self):
        for holders, mode, many in product(HOLDERS, MODES, (1, 2, 400)):
            way = equal_way(holders, mode, 2, many)
            self.assertEqual(light(way, 0, ()), many)
            self.assertEqual(light(way, 1, ()), many)

    def test_all_holders_black(self):
        for holders in HOLDERS:
            everyone = tuple(range(holders))
            self.assertEqual(light(equal_way(holders, "any", 2), 0, everyone), 0)
            self.assertEqual(light(equal_way(holders, "odd", 2), 0, everyone), 3 if holders % 2 == 0 else 0)

    def test_odd_numbers_of_black_sheets(self):
        way = (3, "odd", (((0, 1, 2),), ((0, 1),)))
        self.assertEqual([light(way, 0, group) for group in [(0,), (0, 1), (0, 1, 2)]], [0, 1, 0])
        self.assertEqual([light(way, 1, group) for group in [(0,), (0, 1), (0, 1, 2), (2,), (1, 2)]], [0, 1, 1, 1, 0])

    def test_lights_in_the_order_of_groups(self):
        for way in WAYS:
            holders, mode, tables = way
            for tone, table in enumerate(tables):
                self.assertEqual(repr(lights(way, tone)), repr(plain_lights(holders, mode, table)))

    def test_gains_of_each_two_tones(self):
        for way in WAYS:
            tones = range(len(way[2]))
            self.assertEqual(repr(gains(way)), repr(plain_gains(way)))
            for one, other in product(tones, tones):
                self.assertEqual(gains(way, one, other), plain_gains(way, one, other))
                self.assertEqual(gains(way, one=one, other=other), plain_gains(way, one, other))

    def test_gains_with_one_tone_told(self):
        way = (1, "any", (((),), ((0,),), ((),)))
        self.assertEqual(gains(way), (0, 1))
        self.assertEqual(gains(way, 2), (0, 1))
        self.assertEqual(gains(way, 1), (0, 0))
        self.assertEqual(gains(way, one=1), (0, 0))
        self.assertEqual(gains(way, other=2), (0, 0))
        self.assertEqual(gains(way, 1, 2), (0, -1))
        self.assertEqual(gains(way, other=0, one=1), (0, -1))

    def test_gains_of_one_and_the_same_tone(self):
        for way in WAYS:
            for tone in range(len(way[2])):
                self.assertEqual(gains(way, tone, tone), (0,) * 2 ** way[0])

    def test_great_ways(self):
        for mode in MODES:
            way = (5, mode, (((),) * 400, ((0, 1, 2, 3, 4),) * 400))
            self.assertEqual(light(way, 0, (0, 1, 2, 3, 4)), 400)
            self.assertEqual(gains(way), tuple(0 if mode == "odd" and len(group) % 2 == 0 or group == () else 400
                                               for group in all_groups(5)))

    def test_by_names(self):
        self.assertEqual(light(way=W, tone=0, group=(0,)), 1)
        self.assertEqual(lights(way=W, tone=1), (2, 1, 0, 1))
        self.assertEqual(gains(way=W, one=1, other=0), (0, 0, -1, 0))
        self.assertEqual(cut(way=V, tone=1, group=(0,)), ((0,), (0,)))


class CutTest(unittest.TestCase):

    def test_each_group_and_tone(self):
        for way in WAYS:
            for tone, table in enumerate(way[2]):
                for group in all_groups(way[0]):
                    self.assertEqual(repr(cut(way, tone, group)), repr(plain_cut(table, group)), (way, tone, group))

    def test_no_sheets_tell_the_number_of_dots(self):
        self.assertEqual(cut(H, 1, ()), ((), (), (), ()))

    def test_all_sheets_tell_the_table(self):
        for way in WAYS:
            for tone, table in enumerate(way[2]):
                self.assertEqual(cut(way, tone, tuple(range(way[0]))), table)

    def test_sorted_anew(self):
        # With the first holder left out the dots come in another order.
        way = (3, "any", (((0, 2), (1,), (1, 2)), ((), (), ())))
        self.assertEqual(cut(way, 0, (1, 2)), ((1,), (1, 2), (2,)))
        self.assertEqual(cut(way, 0, (2,)), ((), (2,), (2,)))


class LotsTest(unittest.TestCase):

    def test_told(self):
        for way in WAYS:
            for group in all_groups(way[0]):
                self.assertEqual(repr(told(way, group)), repr(plain_told(way, group)), (way, group))

    def test_shown(self):
        for way in WAYS:
            holders, mode, tables = way
            for group in all_groups(holders):
                bright = [plain_light(mode, table, group) for table in tables]
                wanted = plain_lots(len(tables), lambda one, other: bright[one] == bright[other])
                self.assertEqual(repr(shown(way, group)), repr(wanted), (way, group))

    def test_lots_that_are_not_runs(self):
        way = (1, "odd", (((),), ((0,),), ((),), ((0,),)))
        self.assertEqual(told(way, (0,)), ((0, 2), (1, 3)))
        self.assertEqual(shown(way, (0,)), ((0, 2), (1, 3)))
        way = (1, "any", (((0,),), ((),), ((),), ((0,),)))
        self.assertEqual(told(way, (0,)), ((0, 3), (1, 2)))
        self.assertEqual(shown(way, (0,)), ((0, 3), (1, 2)))

    def test_nobody_tells_nothing(self):
        for way in WAYS:
            wanted = (tuple(range(len(way[2]))),)
            self.assertEqual(told(way, ()), wanted)
            self.assertEqual(shown(way, ()), wanted)

    def test_told_apart_but_not_shown(self):
        # Of two alike and two unlike sheets the light is the same, what is known is not.
        way = (2, "odd", (((), (0, 1)), ((), ())))
        self.assertEqual(shown(way, (0, 1)), ((0, 1),))
        self.assertEqual(told(way, (0, 1)), ((0,), (1,)))

    def test_told_apart_if_some_part_shows(self):
        for way in WAYS:
            holders, mode, tables = way
            for group in all_groups(holders):
                for one, other in combinations(range(len(tables)), 2):
                    apart = not any(one in lot and other in lot for lot in told(way, group))
                    unlike = [part for part in all_groups(holders) if part_of(part, group)
                              and plain_light(mode, tables[one], part) != plain_light(mode, tables[other], part)]
                    self.assertEqual(apart, unlike != [], (way, group, one, other))
                    wanted = min(unlike, key=lambda part: (len(part), part)) if unlike else None
                    self.assertEqual(repr(unlike_part(way, one, other, group)), repr(wanted))

    def test_unlike_part_of_the_same_tone(self):
        for way in WAYS:
            for tone in range(len(way[2])):
                self.assertIsNone(unlike_part(way, tone, tone, tuple(range(way[0]))))

    def test_unlike_part_with_the_fewest_holders(self):
        # (0, 1) is ahead of (2,), but has more holders.
        way = (3, "any", (((), (0, 1)), ((0, 2), (1, 2))))
        self.assertEqual(unlike_part(way, 0, 1, (0, 1)), (0, 1))
        self.assertEqual(unlike_part(way, 0, 1, (0, 1, 2)), (2,))
        self.assertEqual(unlike_part(way, 1, 0, (1, 2)), (2,))
        self.assertIsNone(unlike_part(way, 0, 1, (0,)))
        self.assertIsNone(unlike_part(way, 0, 1, ()))

    def test_unlike_part_is_the_first_of_its_size(self):
        way = (3, "any", (((), (), ()), ((), (1,), (2,))))
        self.assertEqual(unlike_part(way, 0, 1, (0, 1, 2)), (1,))

    def test_by_names(self):
        self.assertEqual(told(way=W, group=(0, 1)), ((0,), (1,)))
        self.assertEqual(shown(way=V, group=(0, 1)), ((0, 1),))
        self.assertEqual(unlike_part(way=V, one=0, other=1, group=(0, 1)), (1,))


class BlindTest(unittest.TestCase):

    def test_blind(self):
        for way in WAYS:
            dark = [group for group in all_groups(way[0]) if len(plain_told(way, group)) == 1]
            wanted = tuple(group for group in dark
                           if not any(part_of(group, other) and group != other for other in dark))
            self.assertEqual(repr(blind(way)), repr(wanted), way)

    def test_sighted(self):
        for way in WAYS:
            bright = [group for group in all_groups(way[0]) if len(plain_told(way, group)) == len(way[2])]
            wanted = tuple(group for group in bright
                           if not any(part_of(other, group) and group != other for other in bright))
            self.assertEqual(repr(sighted(way)), repr(wanted), way)

    def test_equal_tables(self):
        for holders, mode, tones in product(HOLDERS, MODES, (2, 3, 4)):
            way = equal_way(holders, mode, tones)
            self.assertEqual(blind(way), (tuple(range(holders)),))
            self.assertEqual(sighted(way), ())

    def test_two_equal_tables_of_three(self):
        way = (2, "any", (((),), ((0,),), ((),)))
        self.assertEqual(blind(way), ((1,),))
        self.assertEqual(sighted(way), ())

    def test_each_holder_sees(self):
        way = (3, "any", (((),), ((0, 1, 2),)))
        self.assertEqual(blind(way), ((),))
        self.assertEqual(sighted(way), ((0,), (1,), (2,)))

    def test_tones_told_apart_by_unlike_groups(self):
        way = (2, "any", (((),), ((0,),), ((1,),)))
        self.assertEqual(blind(way), ((),))
        self.assertEqual(sighted(way), ((0, 1),))

    def test_three_of_three(self):
        self.assertEqual(blind(H), ((0, 1), (0, 2), (1, 2)))
        self.assertEqual(sighted(H), ((0, 1, 2),))

    def test_by_names(self):
        self.assertEqual(blind(way=W), ((0,), (1,)))
        self.assertEqual(sighted(way=W), ((0, 1),))


class UnchangedTest(unittest.TestCase):

    def test_equal_calls_and_arguments(self):
        for way in WAYS:
            words, everyone = repr(way), tuple(range(way[0]))
            calls = [(light, (way, 0, everyone)), (lights, (way, 1)), (gains, (way,)), (cut, (way, 1, everyone)),
                     (told, (way, everyone)), (shown, (way, everyone)), (unlike_part, (way, 0, 1, everyone)),
                     (blind, (way,)), (sighted, (way,))]
            for function, arguments in calls:
                self.assertEqual(repr(function(*arguments)), repr(function(*arguments)))
            self.assertEqual(repr(way), words)


if __name__ == "__main__":
    unittest.main()
