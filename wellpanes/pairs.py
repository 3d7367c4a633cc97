"""Pairs of sights that are looked at side by side."""

from wellpanes.panes import quarter_of, quarters_of, turned
from wellpanes.turns import back


def quarters_of_both(house, pair):
    """The four pairs of what is seen in the same quarter of both."""
    return list(zip(quarters_of(house, pair[0]), quarters_of(house, pair[1])))


def halves_of_both(house, pair):
    """The two pairs of what meets, upper and lower, where the first one hangs to the left of the second one."""
    first, second = pair
    return [(quarter_of(house, first, right), quarter_of(house, second, right - 1)) for right in (1, 3)]


def turn_of_both(first, second):
    """The turn of the first look of the two, 0 of colours alone."""
    look = second if isinstance(first, str) else first
    return 0 if isinstance(look, str) else look[1]


def unturned(first, second):
    """The pair, both turned by the one turn that undoes that of the first look among them.

    A spot tells both apart just where another spot tells apart both so turned.
    """
    by = back(turn_of_both(first, second))
    return (turned(first, by), turned(second, by))
