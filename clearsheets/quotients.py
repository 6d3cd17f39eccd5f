"""Fractions, as pairs of integers."""

from math import gcd


def fraction(top, bottom):
    """Return the pair for top by bottom, which is above 0, without a common divisor."""
    shared = gcd(top, bottom)
    return (top // shared, bottom // shared)
