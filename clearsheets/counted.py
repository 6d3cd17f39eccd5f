"""The fewest dots of a way that keeps a rule."""

from clearsheets.bounds import MAX_COUNTED
from clearsheets.errors import TooMany
from clearsheets.lights import light
from clearsheets.rules import blinded
from clearsheets.ways import groups


def fewest(rule, mode):
    """Return the least number of dots of the ways that keep the rule, and such a way."""
    holders, _, _ = rule
    if holders > MAX_COUNTED:
        raise TooMany(MAX_COUNTED)
    every = groups(holders)
    tables = [(dot,) for dot in every]
    pair = _pair(rule, mode, tables)
    while pair is None:
        tables = [table + (dot,) for table in tables for dot in every if dot >= table[-1]]
        pair = _pair(rule, mode, tables)
    return (len(pair[0]), (holders, mode, pair))


def _pair(rule, mode, tables):
    """Return the first two of these tables that together keep the rule, None if there are none."""
    # Only tables alike for the groups that are to learn nothing can make a way.
    lots = {}
    for table in tables:
        dim = _lights(rule[0], mode, table, blinded(rule))
        lots.setdefault(dim, []).append((table, _lights(rule[0], mode, table, rule[1])))
    for lot in lots.values():
        for white, bright in lot:
            for black, dull in lot:
                if all([first > second for first, second in zip(bright, dull)]):
                    return (white, black)
    return None


def _lights(holders, mode, table, some):
    """Return the light of the table for each of some groups."""
    return tuple([light((holders, mode, (table,)), 0, group) for group in some])
