"""Ways that are alike but for who has which sheet."""

from itertools import permutations

from clearsheets.lots import in_lots
from clearsheets.making import exchanged


def likeness(one, other):
    """Return the first order by which the sheets of one are exchanged to be other, None if there is none."""
    for order in permutations(range(one[0])):
        if exchanged(one, order) == other:
            return order
    return None


def first_form(way):
    """Return the first of all ways that are this one with its sheets exchanged."""
    return min([exchanged(way, order) for order in permutations(range(way[0]))])


def equals(way):
    """Return the holders in lots of those who may exchange their sheets with one another."""
    every = list(range(way[0]))
    # If two may exchange with a third one, they may with one another.
    return in_lots([min([other for other in every if _swapped(way, holder, other) == way]) for holder in every])


def _swapped(way, one, other):
    """Return the way in which just these two holders have exchanged their sheets."""
    order = list(range(way[0]))
    order[one], order[other] = other, one
    return exchanged(way, tuple(order))
