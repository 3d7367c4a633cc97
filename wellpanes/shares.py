"""How much of the square each colour has in a picture, and in how much of it two pictures are told unlike."""

from wellpanes.fraction import added, less_than_whole, lowest
from wellpanes.grounds import by_rounds, ends_in
from wellpanes.pairs import quarters_of_both, unturned
from wellpanes.panes import panes_from
from wellpanes.solving import solved

# Beside pairs it stands among the parts of sums.
_UNLIKE = "unlike"


def shares(house, sight):
    """The rising list of (what, fraction), what a colour or None: all shares of the sight above 0."""
    if isinstance(sight, str):
        return [(sight, (1, 1))]
    return _shares_of_panes(house, [sight])[sight[0]]


def _shares_of_panes(house, sights):
    # However a pane is turned, its shares are the same.
    coloured = _steps_to_colours(house, {})
    panes = panes_from(house, sights)
    found = solved({pane: (4, _parts_of(house[pane], coloured)) for pane in panes if pane in coloured})
    return {pane: _as_fractions(found[pane]) if pane in coloured else [(None, (1, 1))] for pane in panes}


def _steps_to_colours(house, ends):
    return by_rounds(house, _one_ends_in, ends)


def _one_ends_in(pane, panes):
    return any([ends_in(sight, panes) for sight in pane])


def _parts_of(pane, coloured):
    parts = {}
    for sight in pane:
        if ends_in(sight, coloured):
            key = sight if isinstance(sight, str) else sight[0]
            parts[key] = parts.get(key, 0) + 1
    return parts


def _as_fractions(worth):
    bottom, tops = worth
    left = bottom - sum(list(tops.values()))
    told = [(None, lowest(left, bottom))] if left > 0 else []
    return told + [(colour, lowest(tops[colour], bottom)) for colour in sorted(tops)]


def share_paper(house, sight):
    """The rising list of triples (pane, number, shares) that shows the shares of the sight."""
    coloured = _steps_to_colours(house, {})
    numbers = _steps_to_colours(house, {pane: 0 for pane in range(len(house)) if pane not in coloured})
    found = _shares_of_panes(house, [sight])
    return [(pane, numbers[pane], tuple(told)) for pane, told in found.items()]


def parted_share(house, one, other):
    """How much of the square is told unlike in both."""
    found = _shares_of_panes(house, [one, other])
    if isinstance(one, str) or isinstance(other, str):
        return _share_besides(found, one, other)
    coloured = _steps_to_colours(house, {})
    if not _one_ends_in((one, other), coloured):
        return (0, 1)
    start = unturned(one, other)
    bottom, tops = solved(_rows_of_pairs(house, found, coloured, start))[start]
    return lowest(tops[_UNLIKE], bottom)


def _share_besides(found, one, other):
    # One of both at least is a colour.
    if isinstance(one, str) and isinstance(other, str):
        return (0, 1) if one == other else (1, 1)
    colour, look = (one, other) if isinstance(one, str) else (other, one)
    same = [share for what, share in found[look[0]] if what == colour]
    return less_than_whole(same[0]) if same else (1, 1)


def _rows_of_pairs(house, found, coloured, start):
    rows = {}
    waiting = [start]
    while waiting:
        pair = waiting.pop()
        if pair not in rows:
            known, further = _known_and_further(house, found, coloured, pair)
            top, bottom = known
            parts = {_UNLIKE: top}
            for key in further:
                parts[key] = parts.get(key, 0) + bottom
            rows[pair] = (4 * bottom, parts)
            waiting.extend(further)
    return rows


def _known_and_further(house, found, coloured, pair):
    known = (0, 1)
    further = []
    for first, second in quarters_of_both(house, pair):
        if isinstance(first, str) or isinstance(second, str):
            known = added(known, _share_besides(found, first, second))
        elif _one_ends_in((first, second), coloured):
            # Where no colour is come to from either, nothing is told unlike.
            further.append(unturned(first, second))
    return (known, further)
