"""Whether a paper shows that two pictures fit side by side, or that they do not."""

from wellpanes.kinds import is_number
from wellpanes.pairingcheck import shows_paired
from wellpanes.pairs import halves_of_both
from wellpanes.spots import colour_at


def shows_fit(house, one, other, thing):
    """Whether the thing is a list of triples in which both are paired, that shows that their edges fit."""
    return shows_paired(house, (one, other), thing, halves_of_both)


def shows_misfit(house, one, other, thing):
    """Whether the thing is a row and a round of halves that tell one's right edge and other's left edge apart."""
    if not isinstance(thing, tuple) or len(thing) != 2:
        return False
    row, again = thing
    if not _are_halves(row) or not _are_halves(again) or not again:
        return False
    right = colour_at(house, one, (_quarters(row, 1), _quarters(again, 1)))
    return right != colour_at(house, other, (_quarters(row, 0), _quarters(again, 0)))


def _are_halves(thing):
    return isinstance(thing, tuple) and all([is_number(half) and 0 <= half <= 1 for half in thing])


def _quarters(halves, side):
    return tuple([2 * half + side for half in halves])
