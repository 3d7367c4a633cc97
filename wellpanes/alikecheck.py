"""Whether a paper shows that two sights are alike, or that they are not."""

from wellpanes.kinds import is_number
from wellpanes.panes import is_sight, quarters_of
from wellpanes.spots import colour_at, is_spot


def shows_alike(house, one, other, thing):
    """Whether the thing is a pairing of the house in which both are paired."""
    if not isinstance(thing, list) or not all([_is_triple(house, part) for part in thing]):
        return False
    numbers = {}
    for first, second, number in thing:
        numbers[(first, second)] = number
    if len(numbers) < len(thing) or (one, other) not in numbers:
        return False
    return all([_is_paired_well(house, numbers, pair) for pair in numbers])


def _is_triple(house, thing):
    if not isinstance(thing, tuple) or len(thing) != 3:
        return False
    first, second, number = thing
    return is_sight(house, first) and is_sight(house, second) and is_number(number) and number >= 0


def _is_paired_well(house, numbers, pair):
    first, second = pair
    if isinstance(first, str) and isinstance(second, str):
        return first == second
    parts = list(zip(quarters_of(house, first), quarters_of(house, second)))
    if not all([part in numbers for part in parts]):
        return False
    if isinstance(first, str) or isinstance(second, str):
        return all([numbers[part] < numbers[pair] for part in parts])
    return True


def shows_parted(house, one, other, thing):
    """Whether the thing is a spot at which they aren't told the same."""
    return is_spot(thing) and colour_at(house, one, thing) != colour_at(house, other, thing)
