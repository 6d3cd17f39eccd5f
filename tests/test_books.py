"""Promises 21 and 22: tables drawn by chance."""

import random
import unittest
from fractions import Fraction
from itertools import product
from math import lcm

from clearsheets.books import book_error, flattened, guess, knows, looks
from clearsheets.errors import TooMany
from clearsheets.lights import cut, told
from clearsheets.ways import way_error
from tests.plainly import HOLDERS, MODES, TONES, all_groups, is_plain_group, pair, plain_cut, some_table
from tests.sessions import run_session
from tests.values import B, W, any_values, otherwise, plain_values

SESSION = """
>>> from clearsheets.books import book_error, flattened, guess, knows, looks
>>> B = (1, "any", (((1, ((),)), (1, ((0,),))), ((1, ((0,),)),)))
>>> book_error(B), book_error((1, "any", (((0, ((),)),), ((1, ((0,),)),)))), looks(B, 0, (0,)), knows(B, (0,)), knows(B, ()), guess(B, (0,)), guess(B, ())
(None, (0, 'lot'), ((((),), (1, 2)), (((0,),), (1, 2))), True, False, (3, 4), (1, 2))
>>> flattened(B)
(1, 'any', (((), (0,)), ((0,), (0,))))
"""


def some_book(chance, holders, mode, tones, most=4):
    """Return a book drawn by chance, at times with equal tables or equal lots."""
    many = chance.randint(1, most)
    lots = []
    for _ in range(tones):
        lot = [(chance.randint(1, 9), some_table(chance, holders, many)) for _ in range(chance.randint(1, 4))]
        if chance.random() < 0.3:
            lot[-1] = (chance.randint(1, 9), lot[0][1])
        lots.append(tuple(lot))
    if chance.random() < 0.2:
        lots[-1] = lots[0]
    if chance.random() < 0.2:
        # The same chances, told by other weights.
        lots[1] = ((3, lots[0][0][1]),)
        lots[0] = ((1, lots[0][0][1]), (1, lots[0][0][1]))
    return (holders, mode, tuple(lots))


def some_books(each=6):
    chance = random.Random(21)
    return [some_book(chance, holders, mode, tones)
            for holders, mode, tones in product(HOLDERS, MODES, TONES) for _ in range(each)]


BOOKS = some_books()


def is_plain_choice(holders, value):
    if type(value) is not tuple or len(value) != 2 or type(value[0]) is not int or not 1 <= value[0] <= 9:
        return False
    table = value[1]
    return (type(table) is tuple and 1 <= len(table) <= 12 and all(is_plain_group(holders, dot) for dot in table)
            and table == tuple(sorted(table)))


def plain_book_error(value):
    """Return what is wrong first with the value, as the document tells it."""
    if type(value) is not tuple or len(value) != 3:
        return (None, "book")
    holders, mode, lots = value
    if type(holders) is not int or holders not in HOLDERS:
        return (None, "holders")
    if type(mode) is not str or mode not in MODES:
        return (None, "mode")
    if type(lots) is not tuple or len(lots) not in (2, 3, 4):
        return (None, "lots")
    for number, lot in enumerate(lots):
        if type(lot) is not tuple or len(lot) not in (1, 2, 3, 4):
            return (number, "lot")
        if not all(is_plain_choice(holders, choice) for choice in lot):
            return (number, "lot")
        if {len(table) for _, table in lot} != {len(lots[0][0][1])}:
            return (number, "dots")
    return None


def plain_looks(book, tone, group):
    """Return the chances of the looks of the group, reckoned table by table."""
    lot = book[2][tone]
    found = {}
    for weight, table in lot:
        look = plain_cut(table, group)
        found[look] = found.get(look, Fraction(0)) + Fraction(weight, sum(each for each, _ in lot))
    return found


class SessionTest(unittest.TestCase):

    def test_examples(self):
        run_session(self, SESSION)


class BookErrorTest(unittest.TestCase):

    def check(self, value, wanted):
        with self.subTest(value=repr(value)[:70], wanted=wanted):
            self.assertEqual(repr(book_error(value)), repr(wanted))

    def test_books_drawn_by_chance(self):
        for book in BOOKS:
            self.check(book, None)

    def test_one_thing_otherwise(self):
        chance = random.Random(22)
        books = [B] + [some_book(chance, holders, mode, tones, 2)
                       for holders, mode, tones in product((1, 2, 3, 5), MODES, (2, 3))]
        words = set()
        for book in books:
            for value in otherwise(book):
                wanted = plain_book_error(value)
                words.add(wanted and wanted[1])
                if repr(book_error(value)) != repr(wanted):
                    self.fail((value, wanted, book_error(value)))
        self.assertEqual(words, {None, "book", "holders", "mode", "lots", "lot", "dots"})

    def test_any_value(self):
        for value in any_values():
            self.check(value, plain_book_error(value))
            self.check((2, "any", value), plain_book_error((2, "any", value)))
            self.check((2, "any", (value, value)), (0, "lot"))
            self.check((1, "any", (B[2][1], value)), (1, "lot"))
            self.check((1, "any", (B[2][1], (value,))), (1, "lot"))
            self.check((1, "any", (B[2][1], ((1, value),))), plain_book_error((1, "any", (B[2][1], ((1, value),)))))

    def test_wrong_holders(self):
        for holders in [0, 6, -1, True, None, "1", (1,), [1]]:
            self.check((holders, "any", B[2]), (None, "holders"))
            self.check((holders, None, None), (None, "holders"))

    def test_wrong_modes(self):
        for mode in ["", "even", "Any", None, 0, ("any",), ["any"]]:
            self.check((1, mode, B[2]), (None, "mode"))
            self.check((1, mode, ()), (None, "mode"))

    def test_the_number_of_lots(self):
        lot = ((1, ((),)),)
        for many in (0, 1, 5, 6):
            self.check((1, "any", (lot,) * many), (None, "lots"))
        for many in (2, 3, 4):
            self.check((1, "any", (lot,) * many), None)
        self.check((1, "any", [lot, lot]), (None, "lots"))

    def test_the_number_of_tables(self):
        lot = ((1, ((),)),)
        for many in (1, 2, 3, 4):
            self.check((1, "any", (lot, lot * many)), None)
        for many in (0, 5, 6, 500):
            self.check((1, "any", (lot, lot * many)), (1, "lot"))
            self.check((1, "any", (lot * many, lot)), (0, "lot"))

    def test_weights(self):
        for weight in range(1, 10):
            self.check((1, "any", (((weight, ((),)),),) * 2), None)
        for weight in [0, 10, -1, True, False, None, "1", (1,), 10 ** 59]:
            self.check((1, "any", (((weight, ((),)),),) * 2), (0, "lot"))
            self.check((1, "any", (B[2][1], ((1, ((),)), (weight, ((),))))), (1, "lot"))

    def test_twelve_dots_and_thirteen(self):
        for holders, mode in product(HOLDERS, MODES):
            full, over = ((holders - 1,),) * 12, ((),) * 13
            self.check((holders, mode, (((1, full),), ((9, ((),) * 12),))), None)
            self.check((holders, mode, (((1, over),), ((1, over),))), (0, "lot"))
            self.check((holders, mode, (((1, full),), ((1, over),))), (1, "lot"))
            self.check((holders, mode, (((1, full), (1, over)), ((1, full),))), (0, "lot"))
        self.check((1, "any", (((1, ((),) * 400),),) * 2), (0, "lot"))

    def test_unlike_numbers_of_dots(self):
        one, two = ((),), ((), ())
        self.check((1, "any", (((1, one),), ((1, two),))), (1, "dots"))
        self.check((1, "any", (((1, one), (1, two)), ((1, two),))), (0, "dots"))
        self.check((1, "any", (((1, two),), ((1, two), (1, one)), ((0, one),))), (1, "dots"))
        self.check((1, "any", (((1, two),), ((1, two),), ((1, one),))), (2, "dots"))
        # What is no lot at all is told ahead of its dots, and a lot ahead of those behind it.
        self.check((1, "any", (((1, one), (0, two)), ((1, two),))), (0, "lot"))
        self.check((1, "any", (((1, one), (1, two)), None)), (0, "dots"))

    def test_tables_that_are_none(self):
        for table in [(), ((1,),), ((0,), ()), [()], "", None, ((True,),), ((0, 0),), 0, ([],)]:
            self.check((1, "any", (((1, table),), ((1, ((),)),))), (0, "lot"))

    def test_pairs_that_are_none(self):
        for choice in [(), (1,), (1, ((),), 1), [1, ((),)], {1: ((),)}, (((),), 1), "1.", None, 1, True]:
            self.check((1, "any", ((choice,), ((1, ((),)),))), (0, "lot"))

    def test_by_name(self):
        self.assertIsNone(book_error(value=B))


class LooksTest(unittest.TestCase):

    def test_books(self):
        for book in BOOKS:
            for tone, group in product(range(len(book[2])), all_groups(book[0])):
                found = looks(book, tone, group)
                wanted = plain_looks(book, tone, group)
                self.assertEqual(repr(found), repr(tuple((look, pair(wanted[look])) for look in sorted(wanted))))
                self.assertEqual(sum(Fraction(*chance) for _, chance in found), 1)

    def test_no_sheets(self):
        for book in BOOKS[::3]:
            many = len(book[2][0][0][1])
            for tone in range(len(book[2])):
                self.assertEqual(looks(book, tone, ()), ((((),) * many, (1, 1)),))

    def test_equal_tables(self):
        book = (1, "odd", (((2, ((0,),)), (4, ((),)), (1, ((0,),)), (9, ((),))), ((1, ((),)),)))
        self.assertEqual(looks(book, 0, (0,)), ((((),), (13, 16)), (((0,),), (3, 16))))
        self.assertEqual(looks(book, 1, (0,)), ((((),), (1, 1)),))

    def test_dots_come_in_any_order(self):
        # Who has the first sheet alone cannot tell (0) ahead of (1) from (1) ahead of (0, 1).
        book = (2, "any", (((1, ((0,), (1,))), (1, ((0, 1), (1,)))), ((1, ((), (0,))),)))
        self.assertEqual(looks(book, 0, (0,)), ((((), (0,)), (1, 1)),))
        self.assertEqual(looks(book, 0, (1,)), ((((), (1,)), (1, 2)), (((1,), (1,)), (1, 2))))

    def test_by_names(self):
        self.assertEqual(looks(book=B, tone=1, group=(0,)), ((((0,),), (1, 1)),))


class KnowsTest(unittest.TestCase):

    def test_books(self):
        found = []
        for book in BOOKS:
            for group in all_groups(book[0]):
                seen = [plain_looks(book, tone, group) for tone in range(len(book[2]))]
                wanted = any(one != other for one in seen for other in seen)
                self.assertIs(knows(book, group), wanted, (book, group))
                found.append(wanted)
        self.assertGreater(found.count(True), 100)
        self.assertGreater(found.count(False), 100)

    def test_one_tone_otherwise(self):
        lot, other = ((1, ((),)),), ((1, ((0,),)),)
        for tones in (2, 3, 4):
            for at in range(tones):
                lots = tuple(other if number == at else lot for number in range(tones))
                self.assertIs(knows((1, "any", lots), (0,)), True)
                self.assertIs(knows((1, "any", lots), ()), False)

    def test_the_same_chances_by_other_weights(self):
        one, other = ((0,),), ((),)
        book = (1, "any", (((1, one), (2, other)), ((3, other), (3, one), (3, other))))
        self.assertIs(knows(book, (0,)), False)
        self.assertIs(knows((1, "any", (((1, one), (2, other)), ((1, other), (2, one)))), (0,)), True)

    def test_books_without_chance(self):
        book = (2, "any", tuple(((5, table),) for table in W[2]))
        for group in all_groups(2):
            self.assertEqual(knows(book, group), len(told(W, group)) > 1)

    def test_by_names(self):
        self.assertIs(knows(book=B, group=(0,)), True)


class GuessTest(unittest.TestCase):

    def check(self, book, group):
        seen = [plain_looks(book, tone, group) for tone in range(len(book[2]))]
        every = {look for found in seen for look in found}
        wanted = sum(max(found.get(look, Fraction(0)) for found in seen) for look in every) / len(seen)
        self.assertEqual(repr(guess(book, group)), repr(pair(wanted)), (book, group))
        return wanted

    def test_books(self):
        for book in BOOKS:
            for group in all_groups(book[0]):
                found = self.check(book, group)
                self.assertGreaterEqual(found, Fraction(1, len(book[2])))
                self.assertLessEqual(found, 1)
                self.assertEqual(found > Fraction(1, len(book[2])), knows(book, group))

    def test_who_knows_nothing(self):
        for book in BOOKS[::4]:
            self.assertEqual(guess(book, ()), (1, len(book[2])))

    def test_who_knows_all(self):
        book = (2, "odd", (((1, ((),)),), ((2, ((0,),)),), ((3, ((0, 1),)),), ((4, ((1,),)),)))
        self.assertEqual(guess(book, (0, 1)), (1, 1))
        self.assertEqual(guess(book, (0,)), (1, 2))

    def test_great_bottoms(self):
        tables = [((),), ((0,),), ((1,),), ((0, 1),)]
        lots = [tuple(zip(weights, tables)) for weights in [(9, 9, 9, 8), (9, 9, 9, 7), (9, 9, 9, 4), (9, 9, 9, 2)]]
        self.check((2, "any", tuple(lots)), (0, 1))
        self.check((2, "any", tuple(lots)), (1,))

    def test_by_names(self):
        self.assertEqual(guess(book=B, group=(0,)), (3, 4))


class FlattenedTest(unittest.TestCase):

    def check(self, book):
        holders, mode, lots = book
        many = [sum(weight * len(table) for weight, table in lot) for lot in lots]
        together = lcm(*many)
        if together > 400:
            with self.assertRaises(TooMany) as caught:
                flattened(book)
            self.assertEqual(caught.exception.limit, 400)
            return together
        tables = [tuple(sorted(dot for weight, table in lot for dot in table * (weight * (together // each))))
                  for lot, each in zip(lots, many)]
        found = flattened(book)
        self.assertEqual(repr(found), repr((holders, mode, tuple(tables))))
        self.assertIsNone(way_error(found))
        return together

    def test_books(self):
        found = [self.check(book) for book in BOOKS]
        self.assertGreater(len([many for many in found if many > 400]), 20)
        self.assertGreater(len([many for many in found if many <= 400]), 20)

    def test_just_as_many_dots_as_there_may_be_and_more(self):
        def lot(*weights, many):
            return tuple((weight, ((),) * many) for weight in weights)

        for first, second, many, wanted in [((8,), (5,), 10, 400), ((9, 7), (9, 9, 7), 1, 400),
                                            ((9, 9, 7), (9, 1), 8, 400),
                                            ((9, 8), (2,), 12, 408), ((9, 9, 9, 4), (9, 4), 1, 403),
                                            ((8,), (5,), 11, 440),
                                            ((9, 9, 9, 9), (9, 9, 9, 9), 11, 396),
                                            ((9, 9, 9, 9), (9, 9, 9, 9), 12, 432),
                                            ((9, 9, 9, 8), (9, 9, 9, 7), 12, 14280)]:
            for holders, mode in product(HOLDERS, MODES):
                book = (holders, mode, (lot(*first, many=many), lot(*second, many=many)))
                self.assertIsNone(book_error(book))
                self.assertEqual(self.check(book), wanted)
                self.assertEqual(self.check((holders, mode, book[2] + (book[2][0],))), wanted)

    def test_four_tones(self):
        book = (1, "any", tuple(((weight, ((),)),) for weight in (2, 3, 4, 6)))
        self.assertEqual(self.check(book), 12)
        book = (1, "any", tuple(((weight, ((),)),) for weight in (5, 7, 8, 9)))
        self.assertEqual(self.check(book), 2520)

    def test_the_least_whole_numbers(self):
        # All weights are even, but a table stands as often as its weight tells.
        book = (1, "any", (((2, ((),)),), ((2, ((0,),)),)))
        self.assertEqual(flattened(book), (1, "any", (((), ()), ((0,), (0,)))))

    def test_chances_are_shares(self):
        for book in BOOKS:
            if self.check(book) <= 400 and len(book[2][0][0][1]) == 1:
                way = flattened(book)
                for tone, group in product(range(len(book[2])), all_groups(book[0])):
                    seen = cut(way, tone, group)
                    chances = {dot: pair(Fraction(seen.count(dot), len(seen))) for dot in seen}
                    self.assertEqual(looks(book, tone, group),
                                     tuple(((dot,), chances[dot]) for dot in sorted(chances)))

    def test_by_name(self):
        self.assertEqual(flattened(book=B), (1, "any", (((), (0,)), ((0,), (0,)))))


class UnchangedTest(unittest.TestCase):

    def test_equal_calls_and_arguments(self):
        for book in [B] + BOOKS[::17]:
            words = repr(book)
            for function, arguments in [(book_error, (book,)), (looks, (book, 1, (0,))), (knows, (book, (0,))),
                                        (guess, (book, (0,)))]:
                self.assertEqual(repr(function(*arguments)), repr(function(*arguments)))
            self.assertEqual(repr(book), words)
        for value in plain_values():
            words = repr(value)
            book_error((1, "any", (value, value)))
            self.assertEqual(book_error(value), book_error(value))
            self.assertEqual(repr(value), words)


if __name__ == "__main__":
    unittest.main()
