"""Fractions: pairs (top, bottom), bottom above 0, in lowest terms."""

from math import gcd


def lowest(top, bottom):
    """The fraction of the two in lowest terms."""
    common = gcd(top, bottom)
    return (top // common, bottom // common)
