"""Promise 28: texts of groups, rules and ways, there and back."""

import random
import re
import unittest
from itertools import product

from clearsheets.errors import BadRule, BadText, BadWay, ClearError
from clearsheets.rules import of_size, rule_error
from clearsheets.texts import group_text, read_rule, read_way, rule_text, way_text
from clearsheets.ways import way_error
from tests.plainly import HOLDERS, MODES, all_groups, near_rules, some_rules, some_table, some_ways
from tests.sessions import run_session
from tests.values import R, V, W, any_values, plain_values

SESSION = r"""
>>> from clearsheets.texts import group_text, read_rule, read_way, rule_text, way_text
>>> rule_text(R), read_rule(" holders 3  shows 01 02 hides 0 12") == R, way_text(W), read_way(way_text(W)) == W, group_text(())
('holders 3 shows 01 02 hides 0 12', True, 'holders 2 any\ntone . 01\ntone 0 1', True, '.')
>>> read_rule("holders 3 shows 01 x")
raises BadText(4)
>>> read_way("holders 2 any\ntone 0")
raises BadWay(None, 'tables')
"""
GROUP = r"(?:\.|[0-9]{1,5})"
# Behind so many words a text that may still go on to be a rule's looks so.
AHEAD = {1: r"holders", 2: r"holders [0-9]", 3: r"holders [0-9] shows"}
FURTHER = rf"holders [0-9] shows(?: {GROUP})*(?: hides(?: {GROUP})*)?"
WHOLE = rf"holders [0-9] shows((?: {GROUP})*) hides((?: {GROUP})*)"
WORDS = ("holders", "shows", "hides", "tone", "any", "odd", ".", "0", "3", "9", "01", "10", "00", "20", "01234",
         "012345", "x", "-1", "+1", "1.", "..", "01,02", "Holders", "shows\n", "\nhides", "0\n1", "1_0", "~")


def words_of(text):
    """Return what stands between blanks, and nothing else parts words."""
    return re.findall(r"[^ ]+", text)


def digits(text):
    return tuple(() if word == "." else tuple(int(sign) for sign in word) for word in words_of(text))


def outcome(function, *arguments):
    """Return what the call returns, or the name and the fields of the error it raises."""
    try:
        return function(*arguments)
    except ClearError as error:
        return (type(error).__name__, *vars(error).values())


def plain_read_rule(value):
    """Return what read_rule returns or raises, by patterns of whole texts."""
    if type(value) is not str:
        return ("BadText", None)
    words = words_of(value)
    for number in range(1, len(words) + 1):
        if not re.fullmatch(AHEAD.get(number, FURTHER), " ".join(words[:number])):
            return ("BadText", number - 1)
    whole = re.fullmatch(WHOLE, " ".join(words))
    if whole is None:
        return ("BadText", len(words))
    rule = (int(words[1]), digits(whole[1]), digits(whole[2]))
    error = rule_error(rule)
    return ("BadRule", *error) if error else rule


def plain_read_way(value):
    """Return what read_way returns or raises, by patterns of lines."""
    if type(value) is not str:
        return ("BadText", None)
    lines = re.split("\n", value)
    for number, line in enumerate(lines):
        wanted = r" *holders +[0-9] +(any|odd) *" if number == 0 else rf" *tone(?: +{GROUP})+ *"
        if not re.fullmatch(wanted, line):
            return ("BadText", number)
    holders, mode = words_of(lines[0])[1:]
    way = (int(holders), mode, tuple(digits(re.sub("tone", "", line)) for line in lines[1:]))
    error = way_error(way)
    return ("BadWay", *error) if error else way


def more_blanks(chance, text):
    """Return the text with more blanks between words, and at the beginning and the end of lines."""
    lines = [(" " * chance.randint(1, 3)).join(line.split(" ")) for line in text.split("\n")]
    return "\n".join(" " * chance.randrange(3) + line + " " * chance.randrange(3) for line in lines)


def rules():
    return [rule for holders in HOLDERS for rule in some_rules(holders, 12) + near_rules(holders)[::5]]


def changed_words(chance, words):
    """Yield the words with one left out, put in, twice, exchanged for another, or in another place."""
    for at in range(len(words)):
        yield words[:at] + words[at + 1:]
        yield words[:at] + words[at:at + 1] + words[at:]
        yield words[:at]
        for word in chance.sample(WORDS, 6):
            yield words[:at] + [word] + words[at + 1:]
            yield words[:at] + [word] + words[at:]
        other = chance.randrange(len(words))
        swapped = list(words)
        swapped[at], swapped[other] = swapped[other], swapped[at]
        yield swapped
    yield words + [chance.choice(WORDS)]


class SessionTest(unittest.TestCase):

    def test_examples(self):
        run_session(self, SESSION)


class TextTest(unittest.TestCase):

    def check(self, function, plain, value):
        found = outcome(function, value)
        wanted = plain(value)
        if repr(found) != repr(wanted):
            self.fail((value, found, wanted))
        return found


class GroupTextTest(unittest.TestCase):

    def test_groups(self):
        for group in all_groups(5)[1:]:
            self.assertEqual(group_text(group), "".join(map(str, group)))
        self.assertEqual(group_text(()), ".")

    def test_by_name(self):
        self.assertEqual(group_text(group=(0, 2)), "02")


class RuleTextTest(TextTest):

    def test_there_and_back(self):
        chance = random.Random(71)
        for rule in rules():
            text = rule_text(rule)
            texts = [" ".join([word, *map(group_text, some)]) for word, some in zip(("shows", "hides"), rule[1:])]
            self.assertEqual(text, f"holders {rule[0]} {texts[0]} {texts[1]}")
            self.assertEqual(repr(read_rule(text)), repr(rule))
            self.assertEqual(read_rule(more_blanks(chance, text)), rule)
            self.assertEqual(self.check(read_rule, plain_read_rule, more_blanks(chance, text)), rule)

    def test_literal_rules(self):
        self.assertEqual(rule_text((1, (), ())), "holders 1 shows hides")
        self.assertEqual(rule_text(of_size(2, 1)), "holders 2 shows 0 01 1 hides .")
        self.assertEqual(rule_text((5, ((0, 1, 2, 3, 4),), ((), (3, 4)))), "holders 5 shows 01234 hides . 34")
        self.assertEqual(read_rule("holders 1 shows hides"), (1, (), ()))

    def test_words_otherwise(self):
        chance = random.Random(72)
        names = set()
        for rule in rules()[::3]:
            for words in changed_words(chance, rule_text(rule).split(" ")):
                found = self.check(read_rule, plain_read_rule, " ".join(words))
                names.add(found[0] if type(found[0]) is str else "rule")
        self.assertEqual(names, {"BadText", "BadRule", "rule"})

    def test_words_drawn_by_chance(self):
        chance = random.Random(73)
        for _ in range(4000):
            words = ["holders", chance.choice(WORDS[-18:]), "shows"][:chance.randint(0, 3)]
            words += [chance.choice(WORDS[2:16]) for _ in range(chance.randint(0, 5))]
            self.check(read_rule, plain_read_rule, " ".join(words))

    def check_bad_text(self, text, place):
        with self.assertRaises(BadText) as caught:
            read_rule(text)
        self.assertEqual(repr(caught.exception.place), repr(place), text)
        self.assertEqual(plain_read_rule(text), ("BadText", place))

    def test_texts_that_end_too_early(self):
        for text, place in [("", 0), ("   ", 0), ("holders", 1), ("holders 3", 2), ("holders 3 shows", 3),
                            ("holders 3 shows 01 02", 5), (" holders  9 ", 2)]:
            self.check_bad_text(text, place)

    def test_the_first_word_that_cannot_stand_there(self):
        for text, place in [("rule", 0), ("holders holders 3 shows hides", 1), ("holders x shows hides", 1),
                            ("holders 10 shows hides", 1), ("holders -1 shows hides", 1), ("holders . shows hides", 1),
                            ("holders 3 hides", 2), ("holders 3 01 shows hides", 2), ("holders 3 shows shows hides", 3),
                            ("holders 3 shows holders", 3), ("holders 3 shows 012345 hides", 3),
                            ("holders 3 shows 01 .. hides", 4), ("holders 3 shows hides hides", 4),
                            ("holders 3 shows hides 0 shows", 5), ("holders 3 shows 0 hides 0 x 1", 6),
                            ("holders 3 shows x y", 3), ("3 shows hides", 0), ("holders 3 shows 0. hides", 3)]:
            self.check_bad_text(text, place)

    def test_line_feeds_part_no_words(self):
        self.check_bad_text("holders\n3 shows hides", 0)
        self.check_bad_text("holders 3\nshows hides", 1)
        self.check_bad_text("holders 3 shows\nhides", 2)
        self.check_bad_text("holders 3 shows hides\n", 3)
        self.check_bad_text("\nholders 3 shows hides", 0)
        self.check_bad_text("holders 3 shows 0\n1 hides", 3)
        self.check_bad_text("holders 3 shows \n hides", 3)

    def test_no_rules(self):
        for text, number, word in [("holders 0 shows hides", None, "holders"),
                                   ("holders 6 shows hides", None, "holders"),
                                   ("holders 9 shows 9 hides 9", None, "holders"),
                                   ("holders 2 shows 2 hides", 0, "group"),
                                   ("holders 3 shows 20 hides", 0, "group"), ("holders 3 shows 0 00 hides", 1, "group"),
                                   ("holders 3 shows 99999 hides", 0, "group"),
                                   ("holders 2 shows 1 0 hides", 1, "order"),
                                   ("holders 2 shows 0 0 hides", 1, "order"), ("holders 2 shows hides 1 .", 1, "order"),
                                   ("holders 2 shows . hides", 0, "barred"),
                                   ("holders 2 shows 0 1 hides 1", 1, "barred"),
                                   ("holders 2 shows hides 10", 0, "group")]:
            with self.assertRaises(BadRule) as caught:
                read_rule(text)
            self.assertEqual((caught.exception.number, caught.exception.word), (number, word), text)
            self.assertEqual(plain_read_rule(text), ("BadRule", number, word))

    def test_very_many_words(self):
        self.check_bad_text("holders 5 shows " + "0 " * 1490, 1493)
        self.check_bad_text("x" * 3000, 0)
        self.check_bad_text(" " * 3000, 0)
        self.assertEqual(outcome(read_rule, "holders 5 shows hides " + "4 " * 1480), ("BadRule", 1, "order"))

    def test_any_value(self):
        for value in any_values():
            self.check(read_rule, plain_read_rule, value)
            if type(value) is not str:
                self.assertEqual(outcome(read_rule, value), ("BadText", None))

    def test_by_names(self):
        self.assertEqual(rule_text(rule=R), "holders 3 shows 01 02 hides 0 12")
        self.assertEqual(read_rule(value="holders 3 shows 01 02 hides 0 12"), R)


class WayTextTest(TextTest):

    def test_there_and_back(self):
        chance = random.Random(74)
        for way in some_ways(each=3):
            holders, mode, tables = way
            text = way_text(way)
            lines = [" ".join(["tone", *map(group_text, table)]) for table in tables]
            self.assertEqual(text, "\n".join([f"holders {holders} {mode}", *lines]))
            self.assertEqual(repr(read_way(text)), repr(way))
            self.assertEqual(read_way(more_blanks(chance, text)), way)

    def test_great_ways(self):
        chance = random.Random(75)
        for holders, mode in product(HOLDERS, MODES):
            way = (holders, mode, tuple(some_table(chance, holders, 400) for _ in range(4)))
            self.assertEqual(read_way(way_text(way)), way)

    def test_words_otherwise(self):
        chance = random.Random(76)
        names = set()
        for way in some_ways(each=1, most=4):
            lines = [line.split(" ") for line in way_text(way).split("\n")]
            for number in range(len(lines)):
                for words in changed_words(chance, lines[number]):
                    other = lines[:number] + [words] + lines[number + 1:]
                    found = self.check(read_way, plain_read_way, "\n".join(" ".join(line) for line in other))
                    names.add(found[0] if type(found[0]) is str else "way")
        self.assertEqual(names, {"BadText", "BadWay", "way"})

    def test_lines_otherwise(self):
        chance = random.Random(77)
        for way in some_ways(each=1, most=4):
            for lines in changed_words(chance, way_text(way).split("\n")):
                self.check(read_way, plain_read_way, "\n".join(lines))

    def check_bad_text(self, text, place):
        with self.assertRaises(BadText) as caught:
            read_way(text)
        self.assertEqual(repr(caught.exception.place), repr(place), text)
        self.assertEqual(plain_read_way(text), ("BadText", place))

    def test_lines_that_are_none(self):
        for text, place in [("", 0), (" ", 0), ("\n", 0), ("holders", 0), ("holders 2", 0), ("holders any 2", 0),
                            ("holders 2 even", 0), ("holders 12 any", 0), ("holders . any", 0),
                            ("holders 2 any any", 0),
                            ("tone .\ntone .", 0), ("\nholders 2 any\ntone .\ntone .", 0), ("holders 2 any\n", 1),
                            ("holders 2 any\ntone", 1), ("holders 2 any\ntone .\ntone", 2),
                            ("holders 2 any\ntone .\ntone .\n", 3), ("holders 2 any\ntone .\n\ntone .", 2),
                            ("holders 2 any\ntone .\ntones .", 2), ("holders 2 any\ntone . x\ntone y", 1),
                            ("holders 2 any\ntone 012345\ntone .", 1), ("holders 2 any\nholders 2 any", 1),
                            ("holders 2 any tone .\ntone .", 0), ("holders 2 any\n. tone\ntone .", 1)]:
            self.check_bad_text(text, place)

    def test_no_ways(self):
        for text, number, word in [("holders 2 any", None, "tables"), ("holders 2 any\ntone .", None, "tables"),
                                   ("holders 0 any\ntone .\ntone .", None, "holders"),
                                   ("holders 6 any", None, "holders"),
                                   ("holders 2 odd" + "\ntone ." * 5, None, "tables"),
                                   ("holders 2 odd\ntone 2\ntone .", 0, "table"),
                                   ("holders 2 odd\ntone .\ntone 10", 1, "table"),
                                   ("holders 2 odd\ntone 0 .\ntone . .", 0, "table"),
                                   ("holders 2 odd\ntone . 0\ntone .", 1, "dots"),
                                   ("holders 1 any\ntone" + " ." * 401 + "\ntone .", 0, "table")]:
            with self.assertRaises(BadWay) as caught:
                read_way(text)
            self.assertEqual((caught.exception.number, caught.exception.word), (number, word), text)
            self.assertEqual(plain_read_way(text), ("BadWay", number, word))

    def test_any_value(self):
        for value in any_values():
            self.check(read_way, plain_read_way, value)
            if type(value) is not str:
                self.assertEqual(outcome(read_way, value), ("BadText", None))

    def test_by_names(self):
        self.assertEqual(way_text(way=W), "holders 2 any\ntone . 01\ntone 0 1")
        self.assertEqual(read_way(value="holders 2 any\ntone 01 01\ntone 0 01"), V)


class UnchangedTest(unittest.TestCase):

    def test_equal_calls_and_arguments(self):
        for value in plain_values():
            words = repr(value)
            self.assertEqual(repr(outcome(read_rule, value)), repr(outcome(read_rule, value)))
            self.assertEqual(repr(outcome(read_way, value)), repr(outcome(read_way, value)))
            self.assertEqual(repr(value), words)
        words = repr((R, W))
        self.assertEqual((rule_text(R), way_text(W)), (rule_text(R), way_text(W)))
        self.assertEqual(repr((R, W)), words)


if __name__ == "__main__":
    unittest.main()
