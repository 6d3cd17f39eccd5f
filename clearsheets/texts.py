"""Texts of groups, rules and ways, and rules and ways read from texts."""

from clearsheets.bounds import MAX_HOLDERS
from clearsheets.errors import BadText, BadWay
from clearsheets.kinds import is_mode
from clearsheets.rules import checked_rule
from clearsheets.ways import way_error

DIGITS = ("0", "1", "2", "3", "4", "5", "6", "7", "8", "9")


def group_text(group):
    """Return the holders of the group as digits, "." for ()."""
    return "".join([str(holder) for holder in group]) or "."


def rule_text(rule):
    """Return the text of the rule."""
    holders, shows, hides = rule
    return " ".join(["holders", str(holders), "shows"] + _group_texts(shows) + ["hides"] + _group_texts(hides))


def _group_texts(some):
    """Return the texts of the groups."""
    return [group_text(group) for group in some]


def way_text(way):
    """Return the text of the way: a line of the holders, then one of the dots of each tone."""
    holders, mode, tables = way
    lines = [["holders", str(holders), mode]] + [["tone"] + _group_texts(table) for table in tables]
    return "\n".join([" ".join(words) for words in lines])


def words_of(line):
    """Return the words of the line, which blanks part."""
    return [word for word in line.split(" ") if word != ""]


def is_group_word(word):
    """Return whether the word is "." or digits, as many as a group may have holders."""
    return word == "." or len(word) <= MAX_HOLDERS and all([sign in DIGITS for sign in word])


def group_of(word):
    """Return what a group's word tells, digit by digit, which perhaps is no group."""
    return () if word == "." else tuple([int(sign) for sign in word])


def _groups_of(words):
    """Return what the words of groups tell."""
    return tuple([group_of(word) for word in words])


def read_rule(value):
    """Return the rule whose text is the value, which may be of any kind."""
    if not isinstance(value, str):
        raise BadText(None)
    words = words_of(value)
    for place, word in enumerate(words):
        if not _may_stand(words[:place], word):
            raise BadText(place)
    if "hides" not in words:
        raise BadText(len(words))
    middle = words.index("hides")
    return checked_rule((int(words[1]), _groups_of(words[3:middle]), _groups_of(words[middle + 1:])))


def _may_stand(ahead, word):
    """Return whether the word may stand in a rule's text behind these words."""
    if len(ahead) == 0:
        return word == "holders"
    if len(ahead) == 1:
        return word in DIGITS
    if len(ahead) == 2:
        return word == "shows"
    return is_group_word(word) or word == "hides" and "hides" not in ahead


def read_way(value):
    """Return the way whose text is the value, which may be of any kind."""
    if not isinstance(value, str):
        raise BadText(None)
    lines = [words_of(line) for line in value.split("\n")]
    for number, words in enumerate(lines):
        if not _is_way_line(number, words):
            raise BadText(number)
    _, holders, mode = lines[0]
    way = (int(holders), mode, tuple([_groups_of(words[1:]) for words in lines[1:]]))
    error = way_error(way)
    if error is not None:
        number, word = error
        raise BadWay(number, word)
    return way


def _is_way_line(number, words):
    """Return whether these are the words of the line with this number in a way's text."""
    if number == 0:
        return len(words) == 3 and words[0] == "holders" and words[1] in DIGITS and is_mode(words[2])
    return len(words) > 1 and words[0] == "tone" and all([is_group_word(word) for word in words[1:]])
