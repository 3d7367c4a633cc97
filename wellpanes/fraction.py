"""Fractions: pairs (top, bottom), bottom above 0, in lowest terms."""

from math import gcd


def lowest(top, bottom):
    """The fraction of the two in lowest terms."""
    common = gcd(top, bottom)
    return (top // common, bottom // common)


def added(one, other):
    """The sum of two fractions."""
    return lowest(one[0] * other[1] + other[0] * one[1], one[1] * other[1])


def less_than_whole(share):
    """What is left of 1."""
    return lowest(share[1] - share[0], share[1])
