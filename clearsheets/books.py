"""Books: for each tone tables of which one is drawn by chance for each spot."""

from math import lcm

from clearsheets.bounds import MAX_DOTS, MAX_LOOKS, MAX_TONES
from clearsheets.errors import TooMany
from clearsheets.kinds import is_holders, is_mode, is_row, is_whole
from clearsheets.lights import cut
from clearsheets.quotients import common_bottom, fraction, tops
from clearsheets.ways import is_table


def book_error(value):
    """Return None for a book, otherwise the pair that tells what is wrong first."""
    if not is_row(value, 3, 3):
        return (None, "book")
    holders, mode, lots = value
    if not is_holders(holders):
        return (None, "holders")
    if not is_mode(mode):
        return (None, "mode")
    if not is_row(lots, 2, MAX_TONES):
        return (None, "lots")
    return _lots_error(holders, lots)


def _lots_error(holders, lots):
    """Return None if the items are lots alike in dots, otherwise the first fault."""
    for number, lot in enumerate(lots):
        if not is_row(lot, 1, 4) or not all([_is_choice(holders, choice) for choice in lot]):
            return (number, "lot")
        if any([len(table) != _looked(lots) for _, table in lot]):
            return (number, "dots")
    return None


def _is_choice(holders, value):
    """Return whether value, of any kind, is a pair of a weight and a table that may stand in a lot."""
    if not is_row(value, 2, 2):
        return False
    weight, table = value
    return is_whole(weight, 1, 9) and is_table(holders, table) and len(table) <= MAX_LOOKS


def _looked(lots):
    """Return how many dots the first table of all has."""
    return len(lots[0][0][1])


def looks(book, tone, group):
    """Return all looks of the group at a spot of the tone, each with its chance."""
    holders, mode, lots = book
    weights = {}
    for weight, table in lots[tone]:
        look = cut((holders, mode, (table,)), 0, group)
        weights[look] = weights.get(look, 0) + weight
    total = _weight(lots[tone])
    return tuple([(look, fraction(weights[look], total)) for look in sorted(weights)])


def _weight(lot):
    """Return the weights of all tables of the lot together."""
    return sum([weight for weight, _ in lot])


def knows(book, group):
    """Return whether the looks of the group are unlike for some two tones."""
    return any([looks(book, tone, group) != looks(book, 0, group) for tone in range(len(book[2]))])


def guess(book, group):
    """Return the greatest chance to name the tone rightly by the look, if all tones are equally likely."""
    found = [looks(book, tone, group) for tone in range(len(book[2]))]
    bottom = common_bottom([chance for seen in found for _, chance in seen])
    most = {}
    for seen in found:
        for (look, _), top in zip(seen, tops([chance for _, chance in seen], bottom)):
            # Who sees the look names the tone for which it is likeliest.
            most[look] = max(most.get(look, 0), top)
    return fraction(sum(list(most.values())), bottom * len(found))


def flattened(book):
    """Return the way in which each tone has the dots of its tables as often as their weights tell."""
    holders, mode, lots = book
    together = 1
    for lot in lots:
        together = lcm(together, _weight(lot))
    if together * _looked(lots) > MAX_DOTS:
        raise TooMany(MAX_DOTS)
    return (holders, mode, tuple([_flat_table(lot, together // _weight(lot)) for lot in lots]))


def _flat_table(lot, times):
    """Return the table with the dots of each table of the lot so many times its weight."""
    found = []
    for weight, table in lot:
        found = found + list(table) * (weight * times)
    return tuple(sorted(found))
