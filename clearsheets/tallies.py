"""Tallies: for each group of the holders, in order, how often it stands as a dot."""

from clearsheets.ways import groups
from clearsheets.within import is_within


def tally(holders, table):
    """Return how often each group stands in the table."""
    return [table.count(group) for group in groups(holders)]


def table_with(holders, tallied):
    """Return the table in which each group stands so many times."""
    found = []
    for group, many in zip(groups(holders), tallied):
        found = found + [group] * many
    return tuple(found)


def tally_by_light(holders, mode, wanted):
    """Return the one tally with these lights, or with these differences of lights.

    Its numbers may be below 0. None is returned if they are not whole.
    """
    every = groups(holders)
    if mode == "any":
        return [_any_many(holders, dot, every, wanted) for dot in every]
    # In mode "odd" twice the light, less the light of (), is the sum of the tally
    # with a sign for each dot; such sums are turned back by the very same signs.
    turned = [_odd_sum(dot, every, wanted) for dot in every]
    if any([total % len(every) != 0 for total in turned]):
        return None
    return [total // len(every) for total in turned]


def _any_many(holders, dot, every, wanted):
    """Return how often the dot stands, by the lights in mode "any"."""
    # The light of a group is the sum of the tally over the parts of its other holders.
    # Such sums are turned back over the parts of the dot, with a sign for each.
    white = [holder for holder in range(holders) if holder not in dot]
    total = 0
    for group, lit in zip(every, wanted):
        if is_within(white, group):
            total = total + lit * _sign(len(group) - len(white))
    return total


def _odd_sum(dot, every, wanted):
    """Return the number of groups times how often the dot stands, by the lights in mode "odd"."""
    total = 0
    for group, lit in zip(every, wanted):
        both = len([holder for holder in dot if holder in group])
        total = total + (2 * lit - wanted[0]) * _sign(both)
    return total


def _sign(number):
    """Return 1 for an even number, -1 for an odd one."""
    return 1 if number % 2 == 0 else -1
