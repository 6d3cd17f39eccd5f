"""Plans of ways, the greatest contrast, and prices that show that there is no greater one."""

from math import lcm

from clearsheets.bounds import MAX_DOTS, MAX_SOLVED
from clearsheets.errors import TooMany
from clearsheets.kinds import is_row
from clearsheets.lights import is_dark
from clearsheets.quotients import common_bottom, fraction, is_fraction, tops
from clearsheets.rules import blinded
from clearsheets.solved import best_plan
from clearsheets.tallies import table_with, tally
from clearsheets.ways import dots, groups


def way_by(holders, mode, plan):
    """Return the way with the shares of the plan that has the fewest dots."""
    many = 1
    for some in plan:
        for _, bottom in some:
            many = lcm(many, bottom)
            if many > MAX_DOTS:
                raise TooMany(MAX_DOTS)
    return (holders, mode, tuple([table_with(holders, tops(some, many)) for some in plan]))


def shares(way):
    """Return the plan of the way: how great a share of the dots of each tone each group is."""
    holders, _, tables = way
    return tuple([tuple([fraction(many, dots(way)) for many in tally(holders, table)]) for table in tables])


def plan_contrast(rule, mode, plan):
    """Return the contrast of the plan, (1, 1) without shows, None if it does not keep the rule."""
    holders, shows, _ = rule
    white, black = plan
    bottom = common_bottom(white + black)
    more = [first - second for first, second in zip(tops(white, bottom), tops(black, bottom))]
    every = groups(holders)
    gained = {group: _bright(mode, every, more, group) for group in every}
    if any([gained[group] != 0 for group in blinded(rule)]):
        return None
    if not shows:
        return (1, 1)
    least = min([gained[group] for group in shows])
    if least <= 0:
        return None
    return fraction(least, bottom)


def _bright(mode, every, worths, group):
    """Return the sum of the worths of the dots that are not dark for the group.

    As dot and group may change places, it is the sum over the groups for which a dot is not dark, too.
    """
    return sum([worth for dot, worth in zip(every, worths) if not is_dark(mode, dot, group)])


def evened(holders, plan):
    """Return the plan in which groups with equally many holders share alike what they had together."""
    return tuple([_evened_shares(holders, some) for some in plan])


def _evened_shares(holders, some):
    """Return the shares of a tone, evened among groups with equally many holders."""
    bottom = common_bottom(some)
    together, alike = [0] * (holders + 1), [0] * (holders + 1)
    for group, top in zip(groups(holders), tops(some, bottom)):
        together[len(group)] += top
        alike[len(group)] += 1
    return tuple([fraction(together[len(group)], bottom * alike[len(group)]) for group in groups(holders)])


def best(rule, mode):
    """Return the greatest contrast of ways that keep the rule, and a plan with it."""
    _refuse_many(rule)
    most, plan, _ = _solved(rule, mode)
    return (most, plan)


def prices(rule, mode):
    """Return prices by which no contrast is greater than the greatest one."""
    _refuse_many(rule)
    _, _, priced = _solved(rule, mode)
    # The groups that have prices: first those for which any fraction may stand, then the shows.
    found = {group: price for group, price in zip(blinded(rule) + list(rule[1]), priced)}
    return tuple([found.get(group, (0, 1)) for group in groups(rule[0])])


def _refuse_many(rule):
    """Raise TooMany for a rule of more holders than are solved."""
    if rule[0] > MAX_SOLVED:
        raise TooMany(MAX_SOLVED)


def _solved(rule, mode):
    """Return the greatest contrast, a plan with it, and the prices of blinded groups and shows."""
    alike = [(group, 0, 1) for group in blinded(rule)]
    lighter = [(group, 0, 1) for group in rule[1]]
    return best_plan(rule[0], mode, 2, alike, lighter)


def bound_of(rule, mode, value):
    """Return the bound of contrasts that value tells, None if it is no prices or tells none."""
    _refuse_many(rule)
    if not _are_prices(rule, mode, value):
        return None
    bottom = common_bottom(value)
    total = sum([top for group, top in zip(groups(rule[0]), tops(value, bottom)) if group in rule[1]])
    if total == 0:
        return None
    return fraction(bottom, total)


def _are_prices(rule, mode, value):
    """Return whether value, of any kind, is prices of the rule."""
    holders, shows, _ = rule
    every = groups(holders)
    if not is_row(value, len(every), len(every)) or not all([is_fraction(price) for price in value]):
        return False
    hidden = blinded(rule)
    for group, (top, _) in zip(every, value):
        if group not in hidden and (top < 0 or top > 0 and group not in shows):
            return False
    bottom = common_bottom(value)
    whole = tops(value, bottom)
    sums = [_bright(mode, every, whole, dot) for dot in every]
    return all([0 <= total <= bottom for total in sums])
