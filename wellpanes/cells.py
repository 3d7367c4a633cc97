"""Cells: the quarters of quarters of a sight, down to a depth."""

from wellpanes.grounds import whole_in, wholes_of
from wellpanes.panes import quarter_of


def cell_row(depth, across, down):
    """The row of quarters of the cell so many from the left, so many from the top."""
    return tuple([(across >> level) % 2 + 2 * ((down >> level) % 2) for level in reversed(range(depth))])


def drawn(house, sight, depth):
    """The rows of cells from the top, each from the left: the colour that the cell is alike to, else None."""
    rows = [[sight]]
    for _ in range(depth):
        rows = _quartered(house, rows)
    wholes = wholes_of(house)
    return [[whole_in(wholes, cell) for cell in row] for row in rows]


def _quartered(house, rows):
    finer = []
    for row in rows:
        for upper in (0, 2):
            finer.append([quarter_of(house, cell, quarter) for cell in row for quarter in (upper, upper + 1)])
    return finer


def counted(house, sight, depth):
    """The rising list of (what, number): how many cells are alike to each colour, and of None to none."""
    wholes = wholes_of(house)
    numbers = {_kind_in(wholes, sight): 1}
    for _ in range(depth):
        numbers = _numbers_in_quarters(house, wholes, numbers)
    colours = sorted([what for what in numbers if isinstance(what, str)])
    others = sum([number for what, number in numbers.items() if not isinstance(what, str)])
    told = [(None, others)] if others > 0 else []
    return told + [(colour, numbers[colour]) for colour in colours]


def _kind_in(wholes, sight):
    # However a pane is turned, its cells are as many of each kind.
    colour = whole_in(wholes, sight)
    return sight[0] if colour is None else colour


def _numbers_in_quarters(house, wholes, numbers):
    finer = {}
    for what, number in numbers.items():
        parts = [what] * 4 if isinstance(what, str) else [_kind_in(wholes, sight) for sight in house[what]]
        for part in parts:
            finer[part] = finer.get(part, 0) + number
    return finer
