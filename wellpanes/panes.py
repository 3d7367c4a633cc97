"""Panes, houses of panes, and what is seen in them."""

from wellpanes.kinds import is_colour, is_number
from wellpanes.turns import behind, is_turn, shown


def is_house(thing):
    """Whether it is a tuple of panes whose looks are all into panes that are there."""
    return isinstance(thing, tuple) and all([_is_pane(thing, pane) for pane in thing])


def _is_pane(house, thing):
    if not isinstance(thing, tuple) or len(thing) != 4:
        return False
    return all([is_sight(house, sight) for sight in thing])


def is_sight(house, thing):
    """Whether it is a colour, or a look into one of the house's panes."""
    return is_colour(thing) or _is_look(house, thing)


def _is_look(house, thing):
    if not isinstance(thing, tuple) or len(thing) != 2:
        return False
    pane, turn = thing
    return is_number(pane) and 0 <= pane < len(house) and is_turn(turn)


def turned(sight, turn):
    """The sight, turned: a colour is itself."""
    if isinstance(sight, str):
        return sight
    pane, by = sight
    return (pane, behind(by, turn))


def quarter_of(house, sight, quarter):
    """What is seen in this quarter of the sight."""
    if isinstance(sight, str):
        return sight
    pane, turn = sight
    return turned(house[pane][shown(turn, quarter)], turn)


def quarters_of(house, sight):
    """What is seen in its four quarters."""
    return [quarter_of(house, sight, quarter) for quarter in range(4)]


def sight_at(house, sight, row):
    """What is come to from the sight by the quarters of the row, one behind the other."""
    here = sight
    for quarter in row:
        here = quarter_of(house, here, quarter)
    return here


def panes_from(house, sights):
    """The rising list of the panes of all looks that are come to from these sights, themselves too."""
    found = {}
    waiting = _looked_into(sights)
    while waiting:
        pane = waiting.pop()
        if pane not in found:
            found[pane] = True
            waiting.extend(_looked_into(house[pane]))
    return sorted(found)


def _looked_into(sights):
    # Whichever way a pane is turned, its looks are into the same panes.
    return [sight[0] for sight in sights if not isinstance(sight, str)]


def colours_in(house, sights):
    """The rising list of the colours that are come to from these sights, themselves too."""
    seen = list(sights)
    for pane in panes_from(house, sights):
        seen.extend(house[pane])
    return sorted({sight for sight in seen if isinstance(sight, str)})


def beside(house, other):
    """The house's panes, and behind them the other's, their looks numbered on."""
    many = len(house)
    return house + tuple([tuple([numbered_on(sight, many) for sight in pane]) for pane in other])


def numbered_on(sight, many):
    """The sight with its look, if it is one, into the pane so many further on."""
    if isinstance(sight, str):
        return sight
    pane, turn = sight
    return (pane + many, turn)
