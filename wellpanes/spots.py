"""Spots: endless rows of quarters, and the points to which they close in."""

from wellpanes.fraction import lowest
from wellpanes.kinds import is_row
from wellpanes.panes import sight_at


def is_spot(thing):
    """Whether it is a pair of rows, the second of them not bare."""
    if not isinstance(thing, tuple) or len(thing) != 2:
        return False
    row, again = thing
    return is_row(row) and is_row(again) and len(again) > 0


def plain(spot):
    """The spot of the same endless row with the shortest round, and then with the shortest row."""
    row, again = spot
    again = _without_repeats(again)
    while row and row[-1] == again[-1]:
        row, again = row[:-1], again[-1:] + again[:-1]
    return (row, again)


def _without_repeats(again):
    many = len(again)
    lengths = [part for part in range(1, many + 1) if many % part == 0 and again == again[:part] * (many // part)]
    return again[:lengths[0]]


def colour_at(house, sight, spot):
    """The first colour that is come to along the spot, None where none ever is."""
    row, again = spot
    here = sight_at(house, sight, row)
    seen = set()
    while not isinstance(here, str):
        # A look that stands once more at the begin of the round comes round for ever.
        if here in seen:
            return None
        seen.add(here)
        here = sight_at(house, here, again)
    return here


def spot_of(x, y):
    """The plain spot of the point so far from the left and so far from the top."""
    across, down = x[0], y[0]
    quarters = []
    came = {}
    while (across, down) not in came:
        came[(across, down)] = len(quarters)
        quarters.append(2 * across // x[1] + 2 * (2 * down // y[1]))
        across, down = 2 * across % x[1], 2 * down % y[1]
    start = came[(across, down)]
    return plain((tuple(quarters[:start]), tuple(quarters[start:])))


def point_of(spot):
    """How far from the left and from the top the point lies that is in or at the edge of all the spot's quarters."""
    row, again = spot
    across = _length([quarter % 2 for quarter in row], [quarter % 2 for quarter in again])
    down = _length([quarter // 2 for quarter in row], [quarter // 2 for quarter in again])
    return (across, down)


def _length(halves, again):
    # Halves that come again and again are worth as much as their number over one less than a power of 2.
    most = (1 << len(again)) - 1
    return lowest(_number_of(halves) * most + _number_of(again), most << len(halves))


def _number_of(halves):
    number = 0
    for half in halves:
        number = 2 * number + half
    return number
