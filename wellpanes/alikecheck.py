"""Whether a paper shows that two sights are alike, or that they are not."""

from wellpanes.pairingcheck import shows_paired
from wellpanes.pairs import quarters_of_both
from wellpanes.spots import colour_at, is_spot


def shows_alike(house, one, other, thing):
    """Whether the thing is a pairing of the house in which both are paired."""
    return shows_paired(house, (one, other), thing, quarters_of_both)


def shows_parted(house, one, other, thing):
    """Whether the thing is a spot at which they aren't told the same."""
    return is_spot(thing) and colour_at(house, one, thing) != colour_at(house, other, thing)
