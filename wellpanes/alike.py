"""Which sights are alike, shown by a pairing, and which are not, shown by a spot."""

from wellpanes.grounds import ends_in, heights_of, whole_in, wholes_of
from wellpanes.pairs import quarters_of_both, unturned
from wellpanes.panes import colours_in, quarters_of, sight_at
from wellpanes.rows import places_from, shortest_row


def alike(house, one, other):
    """Whether they are told the same at each spot."""
    wholes = wholes_of(house)
    seen = set()
    waiting = [(one, other)]
    while waiting:
        first, second = waiting.pop()
        colours = (whole_in(wholes, first), whole_in(wholes, second))
        if colours[0] != colours[1]:
            return False
        if colours[0] is None:
            # Turned alike, few pairs are left to be looked at.
            pair = unturned(first, second)
            if pair not in seen:
                seen.add(pair)
                waiting.extend(quarters_of_both(house, pair))
    return True


def whole_of(house, sight):
    """The colour to which the sight is alike, None where it's alike to none."""
    return whole_in(wholes_of(house), sight)


def spot_with(house, sight, what):
    """A spot at which the sight is told so, what a colour or None; None where there is none."""
    if what is None:
        return _spot_without_colour(house, sight)

    def parts_of(here):
        return quarters_of(house, here)
    row = shortest_row(sight, parts_of, lambda here: here == what)
    return None if row is None else (row, (0,))


def _spot_without_colour(house, sight):
    heights = heights_of(house)
    if ends_in(sight, heights):
        return None
    row = []
    came = {}
    here = sight
    while here not in came:
        came[here] = len(row)
        # What does not end for sure has a quarter that doesn't, and so on for ever.
        quarters = quarters_of(house, here)
        row.append([ends_in(quarter, heights) for quarter in quarters].index(False))
        here = quarters[row[-1]]
    start = came[here]
    return (tuple(row[:start]), tuple(row[start:]))


def parted(house, one, other):
    """A spot at which they aren't told the same, None where they are alike."""
    if alike(house, one, other):
        return None
    row = None
    if len(colours_in(house, [one, other])) > 1:
        row = _row_to_pair(house, one, other, _are_unlike_colours)
    return _spot_where_one_ends(house, one, other) if row is None else (row, (0,))


def _row_to_pair(house, one, other, is_sought):
    def parts_of(pair):
        return quarters_of_both(house, pair)
    return shortest_row((one, other), parts_of, is_sought)


def _are_unlike_colours(pair):
    one, other = pair
    return isinstance(one, str) and isinstance(other, str) and one != other


def _spot_where_one_ends(house, one, other):
    heights = heights_of(house)
    row = _row_to_pair(house, one, other, lambda pair: _ends_one_alone(heights, pair))
    look = sight_at(house, one, row)
    if isinstance(look, str):
        look = sight_at(house, other, row)
    further, again = _spot_without_colour(house, look)
    return (row + further, again)


def _ends_one_alone(heights, pair):
    one, other = pair
    if isinstance(one, str):
        return not ends_in(other, heights)
    return isinstance(other, str) and not ends_in(one, heights)


def pairing(house, one, other):
    """A pairing in which both are paired, None where they aren't alike."""
    if not alike(house, one, other):
        return None
    heights = heights_of(house)

    def parts_of(pair):
        return quarters_of_both(house, pair)
    pairs = places_from((one, other), parts_of)
    return [(first, second, _fall_of(heights, first, second)) for first, second in pairs]


def _fall_of(heights, first, second):
    # Only from a colour and a look must the number fall, and the look's height does.
    if isinstance(first, str) and not isinstance(second, str):
        return heights[second[0]]
    if isinstance(second, str) and not isinstance(first, str):
        return heights[first[0]]
    return 0
