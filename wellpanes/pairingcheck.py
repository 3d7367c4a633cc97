"""Whether a list of triples pairs two sights, so that nothing tells them apart."""

from wellpanes.kinds import is_number
from wellpanes.panes import is_sight


def shows_paired(house, pair, thing, parts_of):
    """Whether the thing is a list of triples (sight, sight, number) in which the pair is, and of each pair its parts.

    parts_of(house, pair) tells the parts of a pair; where just one is a colour, the parts have lesser numbers.
    """
    if not isinstance(thing, list) or not all([_is_triple(house, part) for part in thing]):
        return False
    numbers = {}
    for first, second, number in thing:
        numbers[(first, second)] = number
    if len(numbers) < len(thing) or pair not in numbers:
        return False
    return all([_is_paired_well(numbers, each, parts_of(house, each)) for each in numbers])


def _is_triple(house, thing):
    if not isinstance(thing, tuple) or len(thing) != 3:
        return False
    first, second, number = thing
    return is_sight(house, first) and is_sight(house, second) and is_number(number) and number >= 0


def _is_paired_well(numbers, pair, parts):
    first, second = pair
    if isinstance(first, str) and isinstance(second, str):
        return first == second
    if not all([part in numbers for part in parts]):
        return False
    if isinstance(first, str) or isinstance(second, str):
        return all([numbers[part] < numbers[pair] for part in parts])
    return True
