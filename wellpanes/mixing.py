"""Pictures that are mixed by a table, or laid over one another."""

from wellpanes.errors import NoMix
from wellpanes.grounds import by_rounds
from wellpanes.pairs import quarters_of_both, turn_of_both, unturned
from wellpanes.rows import places_from


def mixed(house, one, other, table):
    """The house and a sight of it that has at each spot the table's colour for those of both there."""
    lacking = [pair for pair in _colours_met(house, one, other) if pair not in table]
    if lacking:
        raise NoMix(min(lacking))

    def colour_for(first, second):
        return table[(first, second)] if _are_colours(first, second) else None
    return _combined(house, one, other, colour_for)


def _colours_met(house, one, other):
    def parts_of(pair):
        return [unturned(first, second) for first, second in quarters_of_both(house, pair)]
    places = places_from(unturned(one, other), parts_of)
    return [pair for pair in places if _are_colours(pair[0], pair[1])]


def _are_colours(first, second):
    return isinstance(first, str) and isinstance(second, str)


def laid(house, one, other, *, bare):
    """The house and a sight of it that has at each spot what one has there, but where that is bare what other has."""
    def shows_bare(pane, panes):
        return any([sight == bare or (not isinstance(sight, str) and sight[0] in panes) for sight in pane])
    through = by_rounds(house, shows_bare, {})

    def sight_of(first, second):
        if first == bare:
            return second
        if isinstance(first, str) or first[0] not in through:
            return first
        return None
    return _combined(house, one, other, sight_of)


def _combined(house, one, other, ended):
    """The house and a sight of it, with a further pane for each pair of sights whose quarters are looked at.

    ended(first, second) tells the sight of the house that such a pair comes to, None where its quarters must be
    looked at.
    """
    if ended(one, other) is not None:
        return (house, ended(one, other))

    def parts_of(pair):
        parts = quarters_of_both(house, pair)
        return [unturned(first, second) for first, second in parts if ended(first, second) is None]
    pairs = places_from(unturned(one, other), parts_of)
    numbers = {pair: len(house) + at for at, pair in enumerate(pairs)}

    def told(first, second):
        sight = ended(first, second)
        if sight is None:
            sight = (numbers[unturned(first, second)], turn_of_both(first, second))
        return sight
    further = [tuple([told(first, second) for first, second in quarters_of_both(house, pair)]) for pair in pairs]
    return (house + tuple(further), told(one, other))
