"""Pictures worked out by turning grids of cells, so that the tests need not trust the program's own turns."""

from itertools import product

TURNS = range(8)
QUARTERS = range(4)


def house_of(many):
    """A house in which each pane leads to all panes, by many turns."""
    letters = "abcdefghijkl"
    panes = []
    for at in range(many):
        panes.append((
            ((at + 1) % many, at % 8),
            letters[at % 12],
            letters[5 * at % 12] * 8,
            ((7 * at + 3) % many, (3 * at + 5) % 8),
        ))
    return tuple(panes)


def deep_tuple(inner, depth):
    return inner if depth == 0 else (deep_tuple(inner, depth - 1),)


def deep_list(inner, depth):
    return inner if depth == 0 else [deep_list(inner, depth - 1)]


def turned_grid(grid, turn):
    rows = [row[::-1] for row in grid] if turn > 3 else [list(row) for row in grid]
    for _ in range(turn % 4):
        rows = [list(column) for column in zip(*rows[::-1])]
    return rows


def grid_of(house, sight, depth):
    """The colours of the cells, None where a look is left, by turning grids instead of looks."""
    if depth == 0:
        return [[sight if isinstance(sight, str) else None]]
    if isinstance(sight, str):
        return [[sight] * 2 ** depth for _ in range(2 ** depth)]
    parts = [grid_of(house, quarter, depth - 1) for quarter in house[sight[0]]]
    top = [left + right for left, right in zip(parts[0], parts[1])]
    bottom = [left + right for left, right in zip(parts[2], parts[3])]
    return turned_grid(top + bottom, sight[1])


def part_of_grid(grid, quarter):
    half = len(grid) // 2
    rows = grid[half:] if quarter > 1 else grid[:half]
    return [row[half:] if quarter in (1, 3) else row[:half] for row in rows]


def looks_of(house):
    return list(product(range(len(house)), TURNS))
