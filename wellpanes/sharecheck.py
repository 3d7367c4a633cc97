"""Whether a paper shows the shares of a sight."""

from wellpanes.fraction import added, lowest
from wellpanes.kinds import is_colour, is_number
from wellpanes.panes import panes_from

_ALL_NONE = ((None, (1, 1)),)


def shows_shares(house, sight, what, thing):
    """Whether the thing is a paper of the sight's panes, and what is the list of its shares by this paper."""
    if not isinstance(thing, list) or not all([_is_triple(part) for part in thing]):
        return False
    if sorted([part[0] for part in thing]) != panes_from(house, [sight]):
        return False
    numbers = {pane: number for pane, number, _ in thing}
    told = {pane: shares for pane, _, shares in thing}
    if not all([_is_numbered_well(house[pane], numbers, pane, told[pane]) for pane in numbers]):
        return False
    if not all([_are_a_fourth(house[pane], told, told[pane]) for pane in told]):
        return False
    return isinstance(what, list) and _are_shares(tuple(what)) and tuple(what) == _shares_in(told, sight)


def _is_triple(thing):
    if not isinstance(thing, tuple) or len(thing) != 3:
        return False
    pane, number, shares = thing
    return is_number(pane) and is_number(number) and number >= 0 and _are_shares(shares)


def _are_shares(thing):
    if not isinstance(thing, tuple) or not all([_is_share(part) for part in thing]):
        return False
    # No colour is a bare text, so None stands ahead of all colours so.
    order = ["" if what is None else what for what, _ in thing]
    return all([one < other for one, other in zip(order, order[1:])])


def _is_share(thing):
    if not isinstance(thing, tuple) or len(thing) != 2:
        return False
    what, fraction = thing
    return (what is None or is_colour(what)) and _is_fraction(fraction)


def _is_fraction(thing):
    if not isinstance(thing, tuple) or len(thing) != 2:
        return False
    top, bottom = thing
    if not is_number(top) or not is_number(bottom) or top <= 0 or bottom <= 0:
        return False
    return lowest(top, bottom) == thing


def _is_numbered_well(quarters, numbers, pane, shares):
    looked_into = [numbers[sight[0]] for sight in quarters if not isinstance(sight, str)]
    if numbers[pane] == 0:
        return shares == _ALL_NONE and len(looked_into) == 4 and max(looked_into) == 0
    return len(looked_into) < 4 or min(looked_into) < numbers[pane]


def _are_a_fourth(quarters, told, shares):
    sums = {}
    for sight in quarters:
        for what, share in _shares_in(told, sight):
            sums[what] = added(sums.get(what, (0, 1)), share)
    fourths = {what: lowest(top, 4 * bottom) for what, (top, bottom) in sums.items()}
    return fourths == {what: share for what, share in shares}


def _shares_in(told, sight):
    return ((sight, (1, 1)),) if isinstance(sight, str) else told[sight[0]]
