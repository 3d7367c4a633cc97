"""Whether pictures fit side by side, shown by papers, and which of them make up a row."""

from wellpanes.alike import alike, pairing, parted
from wellpanes.likeness import kind_in, split_kinds
from wellpanes.panes import quarter_of, turned

# The flip that exchanges left and right.
_MIRRORED = 4


def fits(house, one, other):
    """Whether no spot of one's right edge and other's left edge tells these apart."""
    return alike(_edge_house(house), _right_edge(one), _left_edge(other))


def misfit(house, one, other):
    """A row and a round of halves that tell both edges apart, None where they fit."""
    spot = parted(_edge_house(house), _right_edge(one), _left_edge(other))
    if spot is None:
        return None
    row, again = spot
    return (tuple([quarter // 2 for quarter in row]), tuple([quarter // 2 for quarter in again]))


def fit_paper(house, one, other):
    """A list of triples that shows that the edges fit, None where they don't."""
    told = pairing(_edge_house(house), _right_edge(one), _left_edge(other))
    if told is None:
        return None
    return [(_of_right_edge(first), _of_left_edge(second), number) for first, second, number in told]


def rows_that_fit(house, sights, many):
    """The rising list of all tuples of so many numbers of sights, each of which fits to the next one."""
    follow = _numbers_that_follow(house, sights)
    rows = [(at,) for at in range(len(sights))]
    for _ in range(many - 1):
        rows = [row + (at,) for row in rows for at in follow[row[-1]]]
    return rows


def _numbers_that_follow(house, sights):
    rights = [_right_edge(sight) for sight in sights]
    lefts = [_left_edge(sight) for sight in sights]
    kinds = split_kinds(_edge_house(house), rights + lefts)[-1]
    return [[at for at, left in enumerate(lefts) if kind_in(kinds, left) == kind_in(kinds, right)] for right in rights]


def _edge_house(house):
    """Of each look a pane whose upper quarters both show the upper half of its right edge, the lower ones the lower.

    So edges are alike just where such panes are.
    """
    panes = []
    for pane in range(len(house)):
        for turn in range(8):
            upper, lower = [_right_edge(quarter_of(house, (pane, turn), quarter)) for quarter in (1, 3)]
            panes.append((upper, upper, lower, lower))
    return tuple(panes)


def _right_edge(sight):
    return sight if isinstance(sight, str) else (8 * sight[0] + sight[1], 0)


def _left_edge(sight):
    return _right_edge(turned(sight, _MIRRORED))


def _of_right_edge(edge):
    return edge if isinstance(edge, str) else (edge[0] // 8, edge[0] % 8)


def _of_left_edge(edge):
    return turned(_of_right_edge(edge), _MIRRORED)
