"""Pictures for the tests, worked out by turning grids of cells or by going step by step.

So the tests need not trust the program's own turns.
"""

from itertools import product
from random import Random

from wellpanes.panes import quarter_of
from wellpanes.turns import back, behind

TURNS = range(8)
QUARTERS = range(4)


def house_of(many):
    """A house in which each pane leads to all panes, by many turns."""
    letters = "abcdefghijkl"
    panes = []
    for at in range(many):
        panes.append((
            ((at + 1) % many, at % 8),
            letters[at % 12],
            letters[5 * at % 12] * 8,
            ((7 * at + 3) % many, (3 * at + 5) % 8),
        ))
    return tuple(panes)


def deep_tuple(inner, depth):
    return inner if depth == 0 else (deep_tuple(inner, depth - 1),)


def deep_list(inner, depth):
    return inner if depth == 0 else [deep_list(inner, depth - 1)]


def turned_grid(grid, turn):
    rows = [row[::-1] for row in grid] if turn > 3 else [list(row) for row in grid]
    for _ in range(turn % 4):
        rows = [list(column) for column in zip(*rows[::-1])]
    return rows


def grid_of(house, sight, depth):
    """The colours of the cells, None where a look is left, by turning grids instead of looks."""
    if depth == 0:
        return [[sight if isinstance(sight, str) else None]]
    if isinstance(sight, str):
        return [[sight] * 2 ** depth for _ in range(2 ** depth)]
    parts = [grid_of(house, quarter, depth - 1) for quarter in house[sight[0]]]
    top = [left + right for left, right in zip(parts[0], parts[1])]
    bottom = [left + right for left, right in zip(parts[2], parts[3])]
    return turned_grid(top + bottom, sight[1])


def part_of_grid(grid, quarter):
    half = len(grid) // 2
    rows = grid[half:] if quarter > 1 else grid[:half]
    return [row[half:] if quarter in (1, 3) else row[:half] for row in rows]


def looks_of(house):
    return list(product(range(len(house)), TURNS))


def random_house(rng, many, colours="abc", looks=0.5, turns=TURNS):
    """A house of so many panes, about so large a part of its quarters looks; rng is seeded by who asks."""
    def quarter():
        if rng.random() < looks:
            return (rng.randrange(many), rng.choice(turns))
        return rng.choice(colours)
    return tuple([(quarter(), quarter(), quarter(), quarter()) for _ in range(many)])


def some_houses(many, seed=0):
    """Houses of few panes and of all kinds, among them ones without a colour and ones of one colour."""
    rng = Random(seed)
    for _ in range(many):
        panes = rng.randrange(1, 5)
        looks = rng.choice((0.2, 0.5, 0.8, 1))
        yield random_house(rng, panes, rng.choice(("a", "ab", "abc")), looks, rng.choice(((0,), (0, 4), TURNS)))


def sights_of(house):
    return ["a", "b", "zz"] + looks_of(house)


def quarters_along(spot, many):
    row, again = spot
    return (row + again * many)[:many]


def colour_by_steps(house, sight, spot):
    """What is told at the spot, by going along it so far that all looks must have come round."""
    here = sight
    for quarter in quarters_along(spot, len(spot[0]) + len(spot[1]) * (8 * len(house) + 1)):
        here = quarter_of(house, here, quarter)
    return here if isinstance(here, str) else None


def rows_to(longest):
    """All rows of quarters, the shorter ones first, of each length the least first."""
    return [row for length in range(longest + 1) for row in product(QUARTERS, repeat=length)]


def least_row(longest, is_sought):
    found = [row for row in rows_to(longest) if is_sought(row)]
    return found[0] if found else None


def made_otherwise(rng, house):
    """The same pictures in another house, and a function that tells what a sight of this house is there.

    There each pane is twice, in some order, each turned somehow; and the colour a is hidden here and there.
    """
    copies = [(pane, copy) for pane in range(len(house)) for copy in (0, 1)]
    rng.shuffle(copies)
    by = {copy: rng.choice(TURNS) for copy in copies}

    def told_there(sight):
        if isinstance(sight, str):
            return (len(copies), rng.choice(TURNS)) if sight == "a" and rng.random() < 0.5 else sight
        copy = (sight[0], rng.randrange(2))
        return (copies.index(copy), behind(back(by[copy]), sight[1]))
    panes = []
    for copy in copies:
        panes.append(tuple([told_there(quarter_of(house, (copy[0], by[copy]), quarter)) for quarter in QUARTERS]))
    return tuple(panes) + (("a",) * 4,), told_there


def some_spots(longest=2, longest_round=2):
    """All spots whose row and whose round are at most so long."""
    return [(row, again) for row in rows_to(longest) for again in rows_to(longest_round)[1:]]


def begins_with(spot, row):
    return quarters_along(spot, len(row)) == row


def rest_of(spot, many):
    """The spot without its first quarters, so many of them."""
    row, again = spot
    if many <= len(row):
        return (row[many:], again)
    gone = (many - len(row)) % len(again)
    return ((), again[gone:] + again[:gone])


def along_edge(halves, side):
    """The quarters of the left edge (side 0) or of the right one (side 1)."""
    return tuple([2 * half + side for half in halves])


def apart_at_edge(house, one, other, row, again):
    """Whether one's right edge and other's left edge are told unlike along the row and the round of halves."""
    right = colour_by_steps(house, one, (along_edge(row, 1), along_edge(again, 1)))
    return right != colour_by_steps(house, other, (along_edge(row, 0), along_edge(again, 0)))


def halves_to(longest):
    """All rows of halves, the shorter ones first, of each length the least first."""
    return [row for length in range(longest + 1) for row in product((0, 1), repeat=length)]


def edge_pairs(house, one, other):
    """All pairs of sights that meet somewhere along both edges."""
    seen = {(one, other): True}
    waiting = [(one, other)]
    while waiting:
        first, second = waiting.pop()
        for half in (0, 1):
            part = (quarter_of(house, first, 2 * half + 1), quarter_of(house, second, 2 * half))
            if part not in seen:
                seen[part] = True
                waiting.append(part)
    return list(seen)


def fits_by_pairs(house, one, other):
    """Whether both edges fit, by all pairs that meet: no unlike colours, no colour beside a spot of none."""
    pairs = edge_pairs(house, one, other)
    well = {pair for pair in pairs if isinstance(pair[0], str) and pair[0] == pair[1]}
    beside_colours = [pair for pair in pairs if isinstance(pair[0], str) != isinstance(pair[1], str)]
    halves = {(first, second): [(quarter_of(house, first, 2 * half + 1), quarter_of(house, second, 2 * half))
                                for half in (0, 1)] for first, second in beside_colours}
    many = -1
    # A pair of a colour and a look is well where both its halves are, again and again until nothing more comes.
    while len(well) > many:
        many = len(well)
        well |= {pair for pair in beside_colours if halves[pair][0] in well and halves[pair][1] in well}
    unlike = [pair for pair in pairs if isinstance(pair[0], str) and isinstance(pair[1], str) and pair not in well]
    return not unlike and all([pair in well for pair in beside_colours])
