"""Promise 32: ways that are alike but for who has which sheet."""

import random
import unittest
from itertools import permutations
from time import perf_counter

from clearsheets.forms import equals, first_form, likeness
from clearsheets.making import exchanged
from clearsheets.ways import way_error
from tests.plainly import HOLDERS, MODES, TONES, all_groups, plain_exchanged, some_table, some_ways
from tests.sessions import run_session
from tests.values import H, V, W

SESSION = """
>>> from clearsheets.forms import equals, first_form, likeness
>>> from clearsheets.making import exchanged
>>> equals(W), equals(H), equals(V), likeness(V, exchanged(V, (1, 0))), likeness(V, W), first_form(V) == exchanged(V, (1, 0))
(((0, 1),), ((0, 1, 2),), ((0,), (1,)), (1, 0), None, False)
"""
WAYS = some_ways()


def orders(holders):
    """Return all orders of the holders, ascending."""
    return sorted(permutations(range(holders)))


def even_way(chance, holders, mode, tones, blocks):
    """Return a way that stays as it is when holders of one block exchange their sheets."""
    tables = []
    for _ in range(tones):
        table = []
        for _ in range(2):
            dot = chance.choice(all_groups(holders))
            for order in orders(holders):
                if all(any(item in block and order[item] in block for block in blocks) for item in range(holders)):
                    table.append(tuple(sorted(order[item] for item in dot)))
        tables.append(tuple(sorted(table)))
    return (holders, mode, tuple(tables))


def even_ways():
    chance = random.Random(3)
    found = []
    for holders, blocks in [(2, [(0, 1)]), (3, [(0, 2), (1,)]), (3, [(0, 1, 2)]), (4, [(0, 1), (2, 3)]),
                            (4, [(0, 3), (1,), (2,)]), (4, [(0, 1, 2, 3)]), (5, [(0, 2, 4), (1, 3)]),
                            (5, [(1, 2), (0, 3), (4,)])]:
        found += [even_way(chance, holders, mode, tones, blocks) for mode in MODES for tones in TONES]
    return found


def with_one_dot_otherwise(chance, way):
    holders, mode, tables = way
    tone = chance.randrange(len(tables))
    table = list(tables[tone])
    table[chance.randrange(len(table))] = chance.choice(all_groups(holders))
    return (holders, mode, tables[:tone] + (tuple(sorted(table)),) + tables[tone + 1:])


class SessionTest(unittest.TestCase):

    def test_examples(self):
        run_session(self, SESSION)


class LikenessTest(unittest.TestCase):

    def check(self, one, other):
        wanted = [order for order in orders(one[0]) if plain_exchanged(one, order) == other]
        found = likeness(one, other)
        self.assertEqual(repr(found), repr(wanted[0] if wanted else None), (one, other))
        return found

    def test_the_like_of_ways_by_drawn_orders(self):
        chance = random.Random(31)
        for way in WAYS:
            order = tuple(chance.sample(range(way[0]), way[0]))
            found = self.check(way, plain_exchanged(way, order))
            self.assertLessEqual(found, order)
            self.assertEqual(exchanged(way, found), plain_exchanged(way, order))

    def test_all_orders_of_few_holders(self):
        for way in some_ways(each=2, holders=(1, 2, 3)):
            for order in orders(way[0]):
                self.check(way, plain_exchanged(way, order))

    def test_one_dot_otherwise(self):
        chance = random.Random(32)
        alike = 0
        for way in WAYS + even_ways():
            if len(way[2][0]) > 60:
                continue
            other = with_one_dot_otherwise(chance, plain_exchanged(way, tuple(chance.sample(range(way[0]), way[0]))))
            alike += self.check(way, other) is not None
        self.assertGreater(alike, 5)

    def test_ways_that_many_orders_leave_as_they_are(self):
        chance = random.Random(33)
        for way in even_ways():
            self.assertEqual(likeness(way, way), tuple(range(way[0])))
            for _ in range(3):
                order = tuple(chance.sample(range(way[0]), way[0]))
                self.check(way, plain_exchanged(way, order))
        self.assertEqual(likeness(H, H), (0, 1, 2))

    def test_a_way_and_itself(self):
        for way in WAYS:
            self.assertEqual(likeness(way, way), tuple(range(way[0])))

    def test_an_order_that_is_not_its_own_reverse(self):
        way = (3, "any", (((0,), (1, 2)), ((1,), (1,))))
        other = plain_exchanged(way, (1, 2, 0))
        self.assertEqual(likeness(way, other), (1, 2, 0))
        self.assertEqual(likeness(other, way), (2, 0, 1))

    def test_other_numbers_of_dots(self):
        for mode in MODES:
            one, other = (2, mode, (((),), ((0,),))), (2, mode, (((), ()), ((0,), (0,))))
            self.assertIsNone(likeness(one, other))
            self.assertIsNone(likeness(other, one))

    def test_tables_of_tones_exchanged(self):
        self.assertIsNone(likeness(W, (2, "any", (W[2][1], W[2][0]))))
        self.assertIsNone(likeness((1, "odd", (((),), ((0,),))), (1, "odd", (((0,),), ((),)))))

    def test_by_names(self):
        self.assertEqual(likeness(one=V, other=V), (0, 1))
        self.assertEqual(likeness(other=V, one=exchanged(V, (1, 0))), (1, 0))


class FirstFormTest(unittest.TestCase):

    def check(self, way):
        found = first_form(way)
        self.assertEqual(repr(found), repr(min(plain_exchanged(way, order) for order in orders(way[0]))))
        self.assertIsNone(way_error(found))
        return found

    def test_ways(self):
        for way in some_ways(each=4) + even_ways() + [W, V, H]:
            self.check(way)

    def test_the_like_have_the_same(self):
        chance = random.Random(34)
        for way in some_ways(each=2):
            order = tuple(chance.sample(range(way[0]), way[0]))
            self.assertEqual(first_form(plain_exchanged(way, order)), first_form(way))
            self.assertEqual(first_form(first_form(way)), first_form(way))
            self.assertIsNotNone(likeness(way, first_form(way)))

    def test_alike_just_where_the_first_forms_are_the_same(self):
        chance = random.Random(35)
        for holders in (2, 3):
            ways = [(holders, "any", tuple(some_table(chance, holders, 2) for _ in range(2))) for _ in range(40)]
            for one in ways:
                for other in ways:
                    self.assertEqual(likeness(one, other) is not None, first_form(one) == first_form(other))

    def test_literal_ways(self):
        self.assertEqual(self.check((2, "any", (((1,),), ((),)))), (2, "any", (((0,),), ((),))))
        self.assertEqual(self.check((2, "any", (((0, 1), (1,)), ((), ())))), (2, "any", (((0,), (0, 1)), ((), ()))))
        self.assertEqual(self.check((3, "odd", (((), (2,)), ((0,), (1, 2))))), (3, "odd", (((), (0,)), ((0, 1), (2,)))))

    def test_by_name(self):
        self.assertEqual(first_form(way=W), W)


class EqualsTest(unittest.TestCase):

    def check(self, way):
        holders = way[0]
        lots = set()
        for one in range(holders):
            lot = []
            for other in range(holders):
                order = [{one: other, other: one}.get(item, item) for item in range(holders)]
                if plain_exchanged(way, order) == way:
                    lot.append(other)
            lots.add(tuple(lot))
        self.assertEqual(repr(equals(way)), repr(tuple(sorted(lots))), way)

    def test_ways(self):
        for way in WAYS:
            self.check(way)

    def test_ways_that_many_orders_leave_as_they_are(self):
        for way in even_ways():
            self.check(way)
        self.assertEqual(equals(even_way(random.Random(1), 5, "any", 2, [(0, 2, 4), (1, 3)])), ((0, 2, 4), (1, 3)))

    def test_holders_with_no_black_dots(self):
        for holders in HOLDERS:
            everyone = tuple(range(holders))
            self.assertEqual(equals((holders, "odd", (((),), ((),)))), (everyone,))
            self.assertEqual(equals((holders, "any", (((),), (everyone,)))), (everyone,))

    def test_holders_apart_in_one_tone_alone(self):
        self.assertEqual(equals((2, "any", (((),), ((0, 1),), ((),), ((1,),)))), ((0,), (1,)))
        self.assertEqual(equals((3, "any", (((),), ((1,),)))), ((0, 2), (1,)))

    def test_orders_that_exchange_more_than_two(self):
        # Holders around a table, dots of neighbours: it may be turned, but no two may exchange alone.
        five = (5, "any", (((0, 1), (0, 4), (1, 2), (2, 3), (3, 4)), ((),) * 5))
        self.assertEqual(likeness(five, plain_exchanged(five, (1, 2, 3, 4, 0))), (0, 1, 2, 3, 4))
        self.assertEqual(equals(five), ((0,), (1,), (2,), (3,), (4,)))
        four = (4, "any", (((0, 1), (0, 3), (1, 2), (2, 3)), ((),) * 4))
        self.assertEqual(equals(four), ((0, 2), (1, 3)))

    def test_by_name(self):
        self.assertEqual(equals(way=V), ((0,), (1,)))


class GreatWaysTest(unittest.TestCase):

    def test_as_many_holders_tones_and_dots_as_there_may_be(self):
        chance = random.Random(36)
        for mode in MODES:
            way = (5, mode, tuple(some_table(chance, 5, 400) for _ in range(4)))
            start = perf_counter()
            other = exchanged(way, (4, 3, 2, 1, 0))
            self.assertEqual(likeness(way, other), (4, 3, 2, 1, 0))
            self.assertIsNone(likeness(way, with_one_dot_otherwise(random.Random(4), other)))
            self.assertEqual(first_form(other), first_form(way))
            self.assertEqual(equals(way), ((0,), (1,), (2,), (3,), (4,)))
            self.assertLess(perf_counter() - start, 20)

    def test_equal_calls_and_arguments(self):
        for way in some_ways(each=1):
            words = repr(way)
            for function, arguments in [(likeness, (way, way)), (first_form, (way,)), (equals, (way,))]:
                self.assertEqual(repr(function(*arguments)), repr(function(*arguments)))
            self.assertEqual(repr(way), words)


if __name__ == "__main__":
    unittest.main()
