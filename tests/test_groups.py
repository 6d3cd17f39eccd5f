"""Promise 4: is_group, groups and parts."""

import unittest
from itertools import combinations, product

from clearsheets.ways import groups, is_group, parts
from tests.values import any_values, nested

HOLDERS = (1, 2, 3, 4, 5)


def all_parts(group):
    """Return the parts of a group, found size by size."""
    return tuple(sorted(part for size in range(len(group) + 1) for part in combinations(group, size)))


def all_groups(holders):
    return all_parts(tuple(range(holders)))


class IsGroupTest(unittest.TestCase):

    def check(self, holders, value, wanted):
        with self.subTest(holders=holders, value=repr(value)[:60]):
            self.assertIs(is_group(holders, value), wanted)

    def test_examples(self):
        self.check(2, (1, 0), False)
        self.check(2, (0, True), False)

    def test_no_holders_are_a_group(self):
        for holders in HOLDERS:
            self.check(holders, (), True)

    def test_all_groups(self):
        for holders in HOLDERS:
            for group in all_groups(holders):
                self.check(holders, group, True)

    def test_all_short_tuples(self):
        for holders in HOLDERS:
            wanted = set(all_groups(holders))
            for length in range(holders + 2):
                for value in product(range(-1, holders + 1), repeat=length):
                    if is_group(holders, value) is not (value in wanted):
                        self.fail((holders, value))

    def test_descending_holders(self):
        for value in [(1, 0), (2, 1, 0), (0, 2, 1), (1, 0, 2), (4, 3, 2, 1, 0)]:
            self.check(5, value, False)

    def test_equal_holders(self):
        for value in [(0, 0), (1, 1), (0, 1, 1), (0, 0, 1), (0, 1, 0), (4, 4), (0,) * 2000]:
            self.check(5, value, False)

    def test_holders_below_the_first(self):
        for holders in HOLDERS:
            for value in [(-1,), (-1, 0), (0, -1), (-2, -1), (-holders,), (1 - 10 ** 60,)]:
                self.check(holders, value, False)

    def test_holders_beyond_the_last(self):
        for holders in HOLDERS:
            self.check(holders, (holders - 1,), True)
            for value in [(holders,), (0, holders), (holders + 1,), (10 ** 60 - 1,), tuple(range(holders + 1))]:
                self.check(holders, value, False)

    def test_true_and_false_are_no_holders(self):
        for value in [(True,), (False,), (0, True), (False, 1), (False, True), (True, 2), (False, 1, 2)]:
            self.check(5, value, False)

    def test_lists_are_no_groups(self):
        for value in [[], [0], [0, 1], [[0]], ([0],), ([],), (0, [1])]:
            self.check(2, value, False)

    def test_other_kinds_are_no_groups(self):
        for value in [None, True, False, 0, 1, "", "0", "01", {}, {0: 1}, {0: 0, 1: 1}]:
            self.check(2, value, False)

    def test_items_of_other_kinds_are_no_holders(self):
        for item in [None, "", "0", "1", {}, {0: 1}, [], (), (0,), (1,), nested(11)]:
            self.check(3, (item,), False)
            self.check(3, (0, item), False)
            self.check(3, (item, 2), False)

    def test_any_value_is_taken(self):
        for holders in HOLDERS:
            wanted = all_groups(holders)
            for value in any_values():
                plain = isinstance(value, tuple) and all(type(item) is int for item in value)
                self.check(holders, value, plain and value in wanted)

    def test_nothing_is_changed(self):
        for value in any_values():
            told = repr(value)
            is_group(3, value)
            self.assertEqual(repr(value), told)

    def test_by_names(self):
        self.assertIs(is_group(holders=2, value=(0, 1)), True)
        self.assertIs(is_group(value=(2,), holders=2), False)
        self.assertIs(is_group(value=(2,), holders=3), True)


class GroupsTest(unittest.TestCase):

    def test_examples(self):
        self.assertEqual(groups(2), ((), (0,), (0, 1), (1,)))

    def test_literal_lists(self):
        self.assertEqual(groups(1), ((), (0,)))
        self.assertEqual(groups(3), ((), (0,), (0, 1), (0, 1, 2), (0, 2), (1,), (1, 2), (2,)))

    def test_complete_for_each_number_of_holders(self):
        for holders in HOLDERS:
            with self.subTest(holders=holders):
                self.assertEqual(repr(groups(holders)), repr(all_groups(holders)))
                self.assertEqual(len(groups(holders)), 2 ** holders)

    def test_ascending(self):
        for holders in HOLDERS:
            found = groups(holders)
            self.assertTrue(all(one < other for one, other in zip(found, found[1:])))

    def test_each_is_a_group(self):
        for holders in HOLDERS:
            for group in groups(holders):
                self.assertIs(is_group(holders, group), True)

    def test_equal_calls(self):
        for holders in HOLDERS:
            self.assertEqual(groups(holders), groups(holders))

    def test_by_name(self):
        self.assertEqual(groups(holders=2), ((), (0,), (0, 1), (1,)))


class PartsTest(unittest.TestCase):

    def test_examples(self):
        self.assertEqual(parts((0, 2)), ((), (0,), (0, 2), (2,)))

    def test_literal_lists(self):
        self.assertEqual(parts(()), ((),))
        self.assertEqual(parts((4,)), ((), (4,)))
        self.assertEqual(parts((1, 3, 4)), ((), (1,), (1, 3), (1, 3, 4), (1, 4), (3,), (3, 4), (4,)))

    def test_complete_for_each_group(self):
        for group in all_groups(5):
            with self.subTest(group=group):
                self.assertEqual(repr(parts(group)), repr(all_parts(group)))

    def test_ascending_from_none_to_the_group_itself(self):
        for group in all_groups(5):
            found = parts(group)
            self.assertTrue(all(one < other for one, other in zip(found, found[1:])))
            self.assertEqual(found[0], ())
            self.assertIn(group, found)

    def test_parts_of_all_holders_are_all_groups(self):
        for holders in HOLDERS:
            self.assertEqual(parts(tuple(range(holders))), groups(holders))

    def test_equal_calls(self):
        for group in all_groups(5):
            self.assertEqual(parts(group), parts(group))

    def test_by_name(self):
        self.assertEqual(parts(group=(0, 2)), ((), (0,), (0, 2), (2,)))


if __name__ == "__main__":
    unittest.main()
