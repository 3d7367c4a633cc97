"""Whether a paper shows that no house of some sights has fewer than so many panes."""

from wellpanes.kinds import is_number, is_row
from wellpanes.panes import sight_at, turned
from wellpanes.spots import colour_at, is_spot
from wellpanes.turns import is_turn


def shows_fewest(house, sights, many, thing):
    """Whether the thing is a paper of so many: ways to so many looks, and spots that tell them apart."""
    if not isinstance(thing, tuple) or len(thing) != 2:
        return False
    ways, spots = thing
    if not isinstance(ways, list) or not isinstance(spots, list):
        return False
    if len(ways) != many or not all([_is_way(house, sights, way) for way in ways]):
        return False
    looks = [sight_at(house, sights[at], row) for at, row in ways]
    if not all([_is_telling(house, looks, part) for part in spots]):
        return False
    return _are_all_parted(looks, spots) and all([_is_no_colour(house, looks, at, spots) for at in range(many)])


def _is_way(house, sights, thing):
    if not isinstance(thing, tuple) or len(thing) != 2:
        return False
    at, row = thing
    if not is_number(at) or not 0 <= at < len(sights) or not is_row(row):
        return False
    return not isinstance(sight_at(house, sights[at], row), str)


def _is_telling(house, looks, thing):
    if not isinstance(thing, tuple) or len(thing) != 4:
        return False
    one, other, turn, spot = thing
    if not is_number(one) or not is_number(other) or not is_turn(turn) or not is_spot(spot):
        return False
    if not 0 <= one <= other < len(looks):
        return False
    if one == other:
        return turn == 0
    return colour_at(house, turned(looks[one], turn), spot) != colour_at(house, looks[other], spot)


def _are_all_parted(looks, spots):
    parted = {}
    for one, other, turn, _ in spots:
        parted[(one, other, turn)] = True
    many = len(looks)
    return all([
        (one, other, turn) in parted for other in range(many) for one in range(other) for turn in range(8)
    ])


def _is_no_colour(house, looks, at, spots):
    told = [colour_at(house, looks[at], spot) for one, other, _, spot in spots if one == other == at]
    return None in told or len(set(told)) > 1
