"""Pictures that are mixed by a table, or laid over one another."""

from wellpanes.errors import NoMix
from wellpanes.grounds import by_rounds
from wellpanes.least import least
from wellpanes.pairs import quarters_of_both, turn_of_both, unturned
from wellpanes.panes import beside, numbered_on
from wellpanes.rows import places_from


def mixed(house, one, other, table):
    """The house and a sight of it that has at each spot the table's colour for those of both there."""
    small, (first, second) = least(house, [one, other])
    lacking = [pair for pair in _colours_met(small, first, second) if pair not in table]
    if lacking:
        raise NoMix(min(lacking))

    def colour_for(left, right):
        return table[(left, right)] if _are_colours(left, right) else None
    return _put_behind(house, _combined(small, first, second, colour_for))


def _colours_met(house, one, other):
    def parts_of(pair):
        return [unturned(first, second) for first, second in quarters_of_both(house, pair)]
    places = places_from(unturned(one, other), parts_of)
    return [pair for pair in places if _are_colours(pair[0], pair[1])]


def _are_colours(first, second):
    return isinstance(first, str) and isinstance(second, str)


def laid(house, one, other, *, bare):
    """The house and a sight of it that has at each spot what one has there, but where that is bare what other has."""
    small, (first, second) = least(house, [one, other])
    # What shows bare nowhere is told at once, so fewer pairs are left to be looked at.
    through = by_rounds(small, lambda pane, panes: _shows_bare(pane, panes, bare), {})

    def sight_of(upper, lower):
        if upper == bare:
            return lower
        if isinstance(upper, str) or upper[0] not in through:
            return upper
        return None
    return _put_behind(house, _combined(small, first, second, sight_of))


def _shows_bare(pane, panes, bare):
    return any([sight == bare or (not isinstance(sight, str) and sight[0] in panes) for sight in pane])


def _put_behind(house, made):
    # Many pairs may show the same: without the least house, what is made of what was made would grow ever more.
    new, sights = least(made[0], [made[1]])
    return (beside(house, new), numbered_on(sights[0], len(house)))


def _combined(house, one, other, ended):
    """The house and a sight of it, with a further pane for each pair of sights whose quarters are looked at.

    ended(first, second) tells the sight of the house that such a pair comes to, None where its quarters must be
    looked at.
    """
    def parts_of(pair):
        parts = quarters_of_both(house, pair)
        return [unturned(first, second) for first, second in parts if ended(first, second) is None]
    pairs = places_from(unturned(one, other), parts_of)
    numbers = {pair: len(house) + at for at, pair in enumerate(pairs)}

    def told(first, second):
        sight = ended(first, second)
        if sight is None:
            sight = (numbers[unturned(first, second)], turn_of_both(first, second))
        return sight
    further = [tuple([told(first, second) for first, second in quarters_of_both(house, pair)]) for pair in pairs]
    return (house + tuple(further), told(one, other))
