"""Promises 23, 24 and 34: pictures, sheets, and what they tell; promise 2 (e)."""

import random
import unittest
from itertools import permutations, product
from math import factorial

from clearsheets.lights import told
from clearsheets.pictures import draw, drawings, lay, read, suspects
from tests.plainly import (HOLDERS, MODES, all_groups, plain_cut, plain_light, some_table, some_way, some_ways)
from tests.sessions import run_session
from tests.values import H, W

SESSION = """
>>> from clearsheets.pictures import draw, drawings, lay, read, suspects
>>> S = draw(W, ((0, 1),), ((0, 1), (1, 0)))
>>> S, lay(W, S, (0, 1)), read(W, (0, 1), lay(W, S, (0, 1))), suspects(W, (0,), S[:1])
((((0, 1), (0, 1)), ((0, 1), (1, 0))), (1, 0), ((0,), (1,)), ((0, 1), (0, 1)))
>>> drawings(W, ((0, 1),), (0,), S[:1]), drawings(W, ((1, 1),), (0,), S[:1]), drawings(W, ((0, 1),), (0, 1), S)
(1, 1, 1)
"""
WAYS = some_ways(each=4, most=8)


def some_picture(chance, tones, rows=None, columns=None):
    rows, columns = rows or chance.randint(1, 4), columns or chance.randint(1, 4)
    return tuple(tuple(chance.randrange(tones) for _ in range(columns)) for _ in range(rows))


def some_orders(chance, way, picture):
    many = len(way[2][0])
    return tuple(tuple(chance.sample(range(many), many)) for row in picture for _ in row)


def plain_sheets(way, picture, orders):
    """Return the sheets, drawn dot by dot."""
    holders, _, tables = way
    columns = len(picture[0])
    found = []
    for holder in range(holders):
        sheet = []
        for spot, order in enumerate(orders):
            table = tables[picture[spot // columns][spot % columns]]
            sheet.append(tuple(int(holder in table[number]) for number in order))
        found.append(tuple(sheet))
    return tuple(found)


def seen_by(sheets, group):
    """Return what the holders of the group, in order, have."""
    return tuple(sheets[holder] for holder in group)


def all_sheets(way, picture):
    """Return the sheets by all tuples of orders."""
    many, spots = len(way[2][0]), len(picture) * len(picture[0])
    return [plain_sheets(way, picture, orders)
            for orders in product(list(permutations(range(many))), repeat=spots)]


def small_cases():
    """Return ways and pictures of few dots and spots: all tuples of orders can be gone through."""
    chance = random.Random(51)
    found = []
    for holders, mode, (many, spots) in product((1, 2, 3), MODES, [(1, 3), (2, 3), (3, 2), (4, 1)]):
        for tones in (2, 3):
            way = some_way(chance, holders, mode, tones, many)
            found.append((way, some_picture(chance, tones, 1, spots)))
            found.append((way, some_picture(chance, tones, spots, 1)))
    return found


class SessionTest(unittest.TestCase):

    def test_examples(self):
        run_session(self, SESSION)


class DrawTest(unittest.TestCase):

    def check(self, way, picture, orders):
        found = draw(way, picture, orders)
        self.assertEqual(repr(found), repr(plain_sheets(way, picture, orders)))
        return found

    def test_ways_and_pictures(self):
        chance = random.Random(52)
        for way in WAYS:
            for _ in range(2):
                picture = some_picture(chance, len(way[2]))
                self.check(way, picture, some_orders(chance, way, picture))

    def test_all_sizes(self):
        chance = random.Random(53)
        for mode, many, rows, columns in product(MODES, range(1, 9), (1, 2, 3, 4), (1, 2, 3, 4)):
            way = some_way(chance, chance.choice(HOLDERS), mode, 4, many)
            picture = some_picture(chance, 4, rows, columns)
            sheets = self.check(way, picture, some_orders(chance, way, picture))
            self.assertEqual({len(sheet) for sheet in sheets}, {rows * columns})
            self.assertEqual({len(spot) for sheet in sheets for spot in sheet}, {many})

    def test_spots_row_by_row(self):
        way = (1, "any", (((),), ((0,),)))
        orders = ((0,),) * 6
        self.assertEqual(draw(way, ((0, 1, 1), (1, 0, 0)), orders), (((0,), (1,), (1,), (1,), (0,), (0,)),))
        self.assertEqual(draw(way, ((0, 1), (1, 1), (0, 0)), orders), (((0,), (1,), (1,), (1,), (0,), (0,)),))

    def test_an_order_that_is_not_its_own_reverse(self):
        way = (2, "any", (((0,), (0, 1), (1,)), ((), (), ())))
        # First the dot number 1, then number 2, then number 0.
        self.assertEqual(draw(way, ((0,),), ((1, 2, 0),)), (((1, 0, 1),), ((1, 1, 0),)))

    def test_laid_sheets_have_the_light_of_the_tones(self):
        chance = random.Random(54)
        for way in WAYS:
            picture = some_picture(chance, len(way[2]))
            sheets = draw(way, picture, some_orders(chance, way, picture))
            for group in all_groups(way[0]):
                wanted = tuple(plain_light(way[1], way[2][tone], group) for row in picture for tone in row)
                self.assertEqual(repr(lay(way, sheets, group)), repr(wanted))

    def test_by_names(self):
        self.assertEqual(draw(way=W, picture=((0, 1),), orders=((0, 1), (1, 0))),
                         (((0, 1), (0, 1)), ((0, 1), (1, 0))))


class LayTest(unittest.TestCase):

    def check(self, way, sheets, group):
        wanted = []
        for spot in range(len(sheets[0])):
            black = [sum(sheets[holder][spot][at] for holder in group) for at in range(len(sheets[0][spot]))]
            wanted.append(len([number for number in black
                               if (number == 0 if way[1] == "any" else number % 2 == 0)]))
        self.assertEqual(repr(lay(way, sheets, group)), repr(tuple(wanted)))

    def test_sheets_that_no_orders_give(self):
        chance = random.Random(55)
        for way in WAYS:
            many = len(way[2][0])
            spots = chance.choice((1, 2, 5, 16))
            sheets = tuple(tuple(tuple(chance.randrange(2) for _ in range(many)) for _ in range(spots))
                           for _ in range(way[0]))
            for group in all_groups(way[0]):
                self.check(way, sheets, group)

    def test_no_sheets_at_all(self):
        self.assertEqual(lay(W, (((1, 1), (0, 1)), ((1, 1), (1, 1))), ()), (2, 2))

    def test_the_modes_are_unlike(self):
        sheets = (((1, 1, 0),), ((1, 0, 0),))
        for mode, wanted in [("any", (1,)), ("odd", (2,))]:
            way = (2, mode, (((), (), ()), ((), (), ())))
            self.assertEqual(lay(way, sheets, (0, 1)), wanted)

    def test_by_names(self):
        self.assertEqual(lay(way=W, sheets=(((0, 1),), ((1, 1),)), group=(0,)), (1,))


class ReadTest(unittest.TestCase):

    def test_ways(self):
        chance = random.Random(56)
        for way in WAYS:
            _, mode, tables = way
            for group in all_groups(way[0]):
                seen = tuple(chance.randint(-1, 9) for _ in range(chance.randint(0, 16)))
                lit = [plain_light(mode, table, group) for table in tables]
                wanted = tuple(tuple(tone for tone, found in enumerate(lit) if found == many) for many in seen)
                self.assertEqual(repr(read(way, group, seen)), repr(wanted))

    def test_what_was_drawn_and_laid(self):
        chance = random.Random(57)
        for way in WAYS:
            picture = some_picture(chance, len(way[2]))
            sheets = draw(way, picture, some_orders(chance, way, picture))
            for group in all_groups(way[0]):
                found = read(way, group, lay(way, sheets, group))
                self.assertTrue(all(tone in tones for tone, tones in zip(sum(picture, ()), found)))

    def test_numbers_of_no_tone(self):
        self.assertEqual(read(W, (0, 1), (-1, 0, 1, 2, 10 ** 50, -10 ** 50)), ((), (1,), (0,), (), (), ()))
        self.assertEqual(read(W, (), (2, 1)), ((0, 1), ()))
        self.assertEqual(read(W, (0,), ()), ())

    def test_by_names(self):
        self.assertEqual(read(way=W, group=(0, 1), seen=(1,)), ((0,),))


class DrawingsTest(unittest.TestCase):

    def test_all_tuples_of_orders(self):
        for way, picture in small_cases():
            every = all_sheets(way, picture)
            for group in all_groups(way[0]):
                counted = {}
                for sheets in every:
                    seen = seen_by(sheets, group)
                    counted[seen] = counted.get(seen, 0) + 1
                for seen, many in counted.items():
                    self.assertEqual(repr(drawings(way, picture, group, seen)), repr(many), (way, picture, group, seen))

    def test_all_that_may_be_seen(self):
        # What no orders give comes by none of them, and all others add up to all tuples of orders.
        chance = random.Random(58)
        for holders, mode, many, spots in [(1, "any", 3, 2), (2, "odd", 2, 2), (2, "any", 3, 1), (3, "odd", 2, 1)]:
            for _ in range(4):
                way = some_way(chance, holders, mode, 2, many)
                picture = some_picture(chance, 2, 1, spots)
                for group in all_groups(holders):
                    sheet = list(product(list(product((0, 1), repeat=many)), repeat=spots))
                    found = [drawings(way, picture, group, seen) for seen in product(sheet, repeat=len(group))]
                    self.assertEqual(sum(found), factorial(many) ** spots)
                    self.assertGreaterEqual(min(found), 0)

    def test_who_learns_nothing_sees_all_pictures_equally_often(self):
        checked = 0
        for way, picture in small_cases():
            tones, columns = range(len(way[2])), len(picture[0])
            others = [tuple(each[at:at + columns] for at in range(0, len(each), columns))
                      for each in product(tones, repeat=len(picture) * columns)]
            every = all_sheets(way, picture)
            for group in all_groups(way[0]):
                if len(told(way, group)) > 1:
                    continue
                checked += group != ()
                for seen in {seen_by(sheets, group) for sheets in every}:
                    self.assertEqual({drawings(way, other, group, seen) for other in others},
                                     {drawings(way, picture, group, seen)})
        self.assertGreater(checked, 10)

    def test_who_tells_tones_apart_does_not(self):
        for way, picture in small_cases():
            for group in all_groups(way[0]):
                for one, other in permutations([lot[0] for lot in told(way, group)], 2):
                    seen = seen_by(draw(way, ((one,),), (tuple(range(len(way[2][0]))),)), group)
                    self.assertGreater(drawings(way, ((one,),), group, seen), 0)
                    self.assertEqual(drawings(way, ((other,),), group, seen), 0)

    def test_very_many(self):
        chance = random.Random(59)
        for holders, mode in product(HOLDERS, MODES):
            way = (holders, mode, tuple(some_table(chance, holders, 8) for _ in range(4)))
            picture = some_picture(chance, 4, 4, 4)
            sheets = draw(way, picture, some_orders(chance, way, picture))
            self.assertEqual(drawings(way, picture, (), ()), factorial(8) ** 16)
            for group in all_groups(holders):
                wanted = 1
                for tone in sum(picture, ()):
                    dim = plain_cut(way[2][tone], group)
                    for dot in set(dim):
                        wanted *= factorial(dim.count(dot))
                self.assertEqual(drawings(way, picture, group, seen_by(sheets, group)), wanted)

    def test_one_mark_otherwise(self):
        chance = random.Random(60)
        for way in WAYS:
            picture = some_picture(chance, len(way[2]), 2, 2)
            sheets = draw(way, picture, some_orders(chance, way, picture))
            group = chance.choice(all_groups(way[0])[1:])
            seen = [[list(spot) for spot in sheet] for sheet in seen_by(sheets, group)]
            sheet, spot, at = chance.randrange(len(seen)), chance.randrange(4), chance.randrange(len(seen[0][0]))
            seen[sheet][spot][at] = 1 - seen[sheet][spot][at]
            # One holder has one black dot more or less than the tone's table.
            seen = tuple(tuple(tuple(spot) for spot in sheet) for sheet in seen)
            self.assertEqual(drawings(way, picture, group, seen), 0)

    def test_equal_dots_come_in_any_order(self):
        way = (2, "any", (((), (), (0,), (0, 1)), ((), (), (), ())))
        sheets = draw(way, ((0,),), ((0, 1, 2, 3),))
        self.assertEqual(drawings(way, ((0,),), (0, 1), sheets), 2)
        self.assertEqual(drawings(way, ((0,),), (0,), sheets[:1]), 4)
        self.assertEqual(drawings(way, ((0,),), (1,), sheets[1:]), 6)
        self.assertEqual(drawings(way, ((0,),), (), ()), 24)

    def test_by_names(self):
        self.assertEqual(drawings(way=W, picture=((0,),), group=(0,), seen=(((0, 1),),)), 1)


class SuspectsTest(unittest.TestCase):

    def check(self, way, group, seen):
        many = len(way[2][0])
        wanted = []
        for spot in range(len(seen[0])):
            looks = sorted(tuple(holder for holder, sheet in zip(group, seen) if sheet[spot][at]) for at in range(many))
            wanted.append(tuple(tone for tone, table in enumerate(way[2]) if plain_cut(table, group) == tuple(looks)))
        self.assertEqual(repr(suspects(way, group, seen)), repr(tuple(wanted)))
        return wanted

    def test_sheets_by_the_same_way(self):
        chance = random.Random(61)
        for way in WAYS:
            picture = some_picture(chance, len(way[2]))
            sheets = draw(way, picture, some_orders(chance, way, picture))
            for group in all_groups(way[0])[1:]:
                found = self.check(way, group, seen_by(sheets, group))
                lots = told(way, group)
                self.assertEqual(found, [next(lot for lot in lots if tone in lot) for tone in sum(picture, ())])

    def test_sheets_by_other_ways(self):
        chance = random.Random(62)
        found = []
        for way in WAYS:
            holders, mode, tables = way
            other = some_way(chance, holders, mode, chance.choice((2, 3, 4)), len(tables[0]))
            picture = some_picture(chance, len(other[2]))
            sheets = draw(other, picture, some_orders(chance, other, picture))
            for group in all_groups(holders)[1:]:
                found += self.check(way, group, seen_by(sheets, group))
        self.assertIn((), found)

    def test_tones_that_some_orders_give(self):
        for way, picture in small_cases():
            spots = len(sum(picture, ()))
            for sheets in all_sheets(way, picture)[::7]:
                for group in all_groups(way[0])[1:]:
                    seen = seen_by(sheets, group)
                    wanted = tuple(tuple(tone for tone in range(len(way[2]))
                                         if drawings(way, ((tone,),), group, tuple((sheet[spot],) for sheet in seen)))
                                   for spot in range(spots))
                    self.assertEqual(suspects(way, group, seen), wanted)

    def test_no_tone_at_all(self):
        self.assertEqual(suspects(W, (0,), (((0, 0), (1, 1), (1, 0)),)), ((), (), (0, 1)))
        self.assertEqual(suspects(W, (0, 1), (((0, 1),), ((1, 1),))), ((),))

    def test_three_sheets(self):
        sheets = draw(H, ((0, 1), (1, 1)), ((3, 2, 1, 0), (0, 1, 2, 3), (1, 0, 2, 3), (2, 3, 0, 1)))
        self.assertEqual(suspects(H, (0, 1, 2), sheets), ((0,), (1,), (1,), (1,)))
        self.assertEqual(suspects(H, (0, 2), (sheets[0], sheets[2])), ((0, 1),) * 4)

    def test_by_names(self):
        self.assertEqual(suspects(way=W, group=(0,), seen=(((0, 1),),)), ((0, 1),))


class UnchangedTest(unittest.TestCase):

    def test_equal_calls_and_arguments(self):
        chance = random.Random(63)
        for way in WAYS[::5]:
            picture = some_picture(chance, len(way[2]))
            orders = some_orders(chance, way, picture)
            sheets = draw(way, picture, orders)
            words = repr((way, picture, orders, sheets))
            for function, arguments in [(draw, (way, picture, orders)), (lay, (way, sheets, (0,))),
                                        (read, (way, (0,), (1, 2))), (drawings, (way, picture, (0,), sheets[:1])),
                                        (suspects, (way, (0,), sheets[:1]))]:
                self.assertEqual(repr(function(*arguments)), repr(function(*arguments)))
            self.assertEqual(repr((way, picture, orders, sheets)), words)


if __name__ == "__main__":
    unittest.main()
