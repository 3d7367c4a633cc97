"""Pairs of sights that are looked at side by side."""

from wellpanes.panes import quarters_of, turned
from wellpanes.turns import back


def quarters_of_both(house, pair):
    """The four pairs of what is seen in the same quarter of both."""
    return list(zip(quarters_of(house, pair[0]), quarters_of(house, pair[1])))


def unturned(first, second):
    """The pair of two looks, both turned by the one turn that undoes the first one's.

    A spot tells both apart just where another spot tells apart both so turned.
    """
    by = back(first[1])
    return (turned(first, by), turned(second, by))
