"""Fractions, as pairs of integers."""

from math import gcd, lcm

from clearsheets.kinds import is_number, is_row


def fraction(top, bottom):
    """Return the pair for top by bottom, which is above 0, without a common divisor."""
    shared = gcd(top, bottom)
    return (top // shared, bottom // shared)


def is_fraction(value):
    """Return whether value, of any kind, is a fraction."""
    if not is_row(value, 2, 2):
        return False
    top, bottom = value
    return is_number(top) and is_number(bottom) and bottom >= 1 and gcd(top, bottom) == 1


def common_bottom(some):
    """Return the least number that the bottoms of all these fractions divide."""
    found = 1
    for _, bottom in some:
        found = lcm(found, bottom)
    return found


def tops(some, bottom):
    """Return the tops of the fractions where all have this bottom."""
    return [top * (bottom // lower) for top, lower in some]
