"""The panes from which all endless rows come to a colour, or some, and those that show one colour alone."""


def by_rounds(house, is_next, ends):
    """A dict: that of the ends, and of each further pane the first round, from 1, in which it is the next to come.

    is_next(pane, dict so far) tells whether it is.
    """
    rounds = {pane: ends[pane] for pane in ends}
    number = 1
    fresh = _next_ones(house, is_next, rounds)
    while fresh:
        for pane in fresh:
            rounds[pane] = number
        number += 1
        fresh = _next_ones(house, is_next, rounds)
    return rounds


def _next_ones(house, is_next, rounds):
    return [at for at, pane in enumerate(house) if at not in rounds and is_next(pane, rounds)]


def ends_in(sight, panes):
    """Whether it is a colour, or a look into one of these panes."""
    return isinstance(sight, str) or sight[0] in panes


def _all_end_in(pane, panes):
    return all([ends_in(sight, panes) for sight in pane])


def heights_of(house):
    """A dict: of each pane from which every endless row comes to a colour, how many quarters that takes at most."""
    return by_rounds(house, _all_end_in, {})


def wholes_of(house):
    """A dict: of each pane that is alike to a colour this colour."""
    wholes = {}
    # The lower ones come first in it, so what a pane looks into is known ahead of it.
    for pane in heights_of(house):
        colours = [whole_in(wholes, sight) for sight in house[pane]]
        if colours[0] is not None and colours.count(colours[0]) == 4:
            wholes[pane] = colours[0]
    return wholes


def whole_in(wholes, sight):
    """The colour to which the sight is alike, None where it's alike to none."""
    return sight if isinstance(sight, str) else wholes.get(sight[0])
