"""Promise 5: way_error and dots."""

import unittest
from itertools import combinations, product

from clearsheets.ways import dots, way_error
from tests.values import H, R, V, W, any_values, nested, plain_values

HOLDERS = (1, 2, 3, 4, 5)
MODES = ("any", "odd")
WRONG_HOLDERS = (0, 6, -1, 10 ** 59, True, False, None, "2", "", (2,), [2], {2: 2}, ())
WRONG_MODES = ("", "Any", "ODD", "any ", " odd", "an", "anyodd", "even", None, True, 0, 1, ("any",), ["any"],
               {"any": "odd"}, ("any", "odd"), ())


def table_of_dots(holders, many):
    """Return a table with that many dots, as unlike as they can be."""
    unlike = [group for size in range(holders + 1) for group in combinations(range(holders), size)]
    return tuple(sorted((unlike * many)[:many]))


def way_of_dots(holders, mode, tones, many):
    return (holders, mode, (table_of_dots(holders, many),) * tones)


class WayErrorTest(unittest.TestCase):

    def check(self, value, wanted):
        with self.subTest(value=repr(value)[:60], wanted=wanted):
            # Their words tell True from 1 and a list from a tuple, which == alone does not.
            self.assertEqual(repr(way_error(value)), repr(wanted))

    def test_examples(self):
        self.check(W, None)
        self.check((2, "any", W[2][:1]), (None, "tables"))
        self.check((2, "odd", (((),), ((2,),))), (1, "table"))
        self.check((2, "any", (((),), ((), ()))), (1, "dots"))
        self.check(V, None)
        self.check(H, None)
        self.check(R, (None, "mode"))

    def test_ways_of_all_sizes(self):
        for holders, mode, tones, many in product(HOLDERS, MODES, (2, 3, 4), (1, 2, 3, 33, 399, 400)):
            self.check(way_of_dots(holders, mode, tones, many), None)

    def test_tables_may_be_unlike(self):
        self.check((1, "odd", (((), ()), ((), (0,)), ((0,), (0,)), ((), ()))), None)
        self.check((5, "any", (((0, 1, 2, 3, 4),), ((),), ((4,),))), None)

    def test_equal_dots_beside_one_another(self):
        self.check((2, "any", (((),) * 400, ((0, 1),) * 400)), None)
        self.check((2, "any", (((), (), (0,), (0,), (0, 1)), ((0,), (0,), (1,), (1,), (1,)))), None)

    def test_no_triple(self):
        for value in [(), (2,), (2, "any"), W + (None,), (W,), list(W), [2, "any", []], "abc", "any",
                      {0: 2, 1: "any", 2: W[2]}, {}, None, True, False, 0, 3, 10 ** 59, nested(12)]:
            self.check(value, (None, "way"))

    def test_wrong_holders(self):
        for holders in WRONG_HOLDERS:
            self.check((holders, "any", W[2]), (None, "holders"))

    def test_wrong_mode(self):
        for mode in WRONG_MODES:
            self.check((2, mode, W[2]), (None, "mode"))

    def test_wrong_tables(self):
        one = ((),)
        for tables in [(), (one,), (one,) * 5, (one,) * 2000, None, True, 2, "", "ab", "abc", [], [one, one],
                       {}, {0: one, 1: one}, (None,)]:
            self.check((2, "any", tables), (None, "tables"))

    def test_one_wrong_table(self):
        right = ((), (0,))
        for wrong in [None, True, 0, 1, "", "ab", [], [(), (0,)], {}, {(): (), (0,): (0,)}, (), ((), [0]),
                      ((), None), (0, 1), ("", "0"), ((), (2,)), ((), (-1,)), ((), (1, 0)), ((), (0, 0)),
                      ((), (True,)), ((False,), (0, 1)), ((), ("0",)), ((), ((0,),)), ((), (None,)), ((), {0: 0})]:
            for tones in (2, 3, 4):
                for number in range(tones):
                    tables = [right] * tones
                    tables[number] = wrong
                    self.check((2, "any", tuple(tables)), (number, "table"))

    def test_an_empty_table(self):
        self.check((2, "any", ((), ())), (0, "table"))
        self.check((2, "any", (((),), ())), (1, "table"))

    def test_a_table_of_too_many_dots(self):
        for holders in HOLDERS:
            self.check(way_of_dots(holders, "any", 2, 401), (0, "table"))
            full, over = table_of_dots(holders, 400), table_of_dots(holders, 401)
            self.check((holders, "odd", (full, over)), (1, "table"))
            self.check((holders, "odd", (full, full, full, over)), (3, "table"))

    def test_far_too_many_dots(self):
        self.check((5, "any", (((),) * 10 ** 6,) * 4), (0, "table"))

    def test_dots_that_are_not_in_order(self):
        for table in [((0,), ()), ((1,), (0,)), ((0, 1), (0,)), ((1,), (0, 1)), ((0,), (1,), (0,)), ((), (0,), ()),
                      ((),) * 398 + ((1,), (0,)), ((0,),) + ((),) * 399]:
            self.check((2, "any", (table, table)), (0, "table"))
            self.check((2, "any", (((),) * len(table), table)), (1, "table"))

    def test_dots_of_holders_that_are_not_there(self):
        for holders in HOLDERS:
            self.check((holders, "any", (((),), ((holders - 1,),))), None)
            self.check((holders, "any", (((),), ((holders,),))), (1, "table"))

    def test_the_number_of_dots(self):
        one, two, three = ((),), ((), ()), ((), (), ())
        self.check((2, "any", (two, one)), (1, "dots"))
        self.check((2, "any", (two, three)), (1, "dots"))
        self.check((2, "any", (two, two, one)), (2, "dots"))
        self.check((2, "any", (one, two, two)), (1, "dots"))
        self.check((2, "any", (one, one, one, two)), (3, "dots"))
        self.check((2, "any", (one, two, three, one)), (1, "dots"))
        self.check((2, "any", (((),) * 400, ((),) * 399)), (1, "dots"))

    def test_the_first_that_applies(self):
        wrong_holders, wrong_mode, wrong_tables = 6, "even", (((2,),),)
        for holders, mode, tables in product((2, wrong_holders), ("any", wrong_mode), (W[2], wrong_tables)):
            wanted = None
            if tables is wrong_tables:
                wanted = (None, "tables")
            if mode is wrong_mode:
                wanted = (None, "mode")
            if holders is wrong_holders:
                wanted = (None, "holders")
            self.check((holders, mode, tables), wanted)
            self.check([holders, mode, tables], (None, "way"))
            self.check((holders, mode, tables, None), (None, "way"))

    def test_wrong_tables_ahead_of_a_wrong_table(self):
        self.check((2, "any", ((),) * 5), (None, "tables"))
        self.check((2, "any", ((),)), (None, "tables"))

    def test_the_first_wrong_table_is_told(self):
        right, longer, wrong = ((),), ((), ()), ((5,),)
        self.check((2, "any", (right, longer, wrong)), (1, "dots"))
        self.check((2, "any", (right, wrong, longer)), (1, "table"))
        self.check((2, "any", (wrong, longer)), (0, "table"))
        self.check((2, "any", (wrong, right, longer)), (0, "table"))
        self.check((2, "any", (right, right, wrong, wrong)), (2, "table"))
        self.check((2, "any", (right, longer, longer, longer)), (1, "dots"))

    def test_a_wrong_table_with_another_number_of_dots(self):
        for wrong in [((0,), ()), ((), None), (), ((),) * 401]:
            self.check((2, "any", (((),), wrong)), (1, "table"))

    def test_any_value_is_no_way_but_for_the_ways(self):
        for value in any_values():
            error = way_error(value)
            if error is None:
                self.assertIn(value, (W, V, H))
            elif not isinstance(value, tuple) or len(value) != 3:
                self.assertEqual(error, (None, "way"))

    def test_any_value_in_each_place(self):
        for value in any_values():
            if type(value) is not int:
                self.check((value, "any", W[2]), (None, "holders"))
            if value not in ("any", "odd"):
                self.check((2, value, W[2]), (None, "mode"))
            self.check((2, "any", (W[2][0], (value,))), (1, "dots") if value in ((), (0,)) else (1, "table"))

    def test_nothing_is_changed(self):
        for value in plain_values():
            for way in [value, (value, "any", W[2]), (2, value, W[2]), (2, "any", value),
                        (2, "any", (value, value)), (2, "any", ((value,), (value,)))]:
                told = repr(way)
                way_error(way)
                self.assertEqual(repr(way), told)

    def test_equal_calls(self):
        for value in any_values():
            self.assertEqual(way_error(value), way_error(value))

    def test_by_name(self):
        self.assertIsNone(way_error(value=W))
        self.assertEqual(way_error(value=()), (None, "way"))


class DotsTest(unittest.TestCase):

    def test_examples(self):
        self.assertEqual(dots(W), 2)
        self.assertEqual(dots(V), 2)
        self.assertEqual(dots(H), 4)

    def test_ways_of_all_sizes(self):
        for holders, mode, tones, many in product(HOLDERS, MODES, (2, 3, 4), (1, 2, 5, 399, 400)):
            found = dots(way_of_dots(holders, mode, tones, many))
            self.assertEqual(found, many)
            self.assertIs(type(found), int)

    def test_equal_dots_count_each(self):
        self.assertEqual(dots((1, "any", (((), (), ()), ((0,), (0,), (0,))))), 3)

    def test_by_name(self):
        self.assertEqual(dots(way=H), 4)


if __name__ == "__main__":
    unittest.main()
