"""Kinds of looks, split finer and finer, until just those that are alike are of one kind."""

from wellpanes.alike import spot_with
from wellpanes.grounds import wholes_of
from wellpanes.panes import colours_in, panes_from, quarters_of


def split_kinds(house, sights):
    """A list of dicts from the looks that are come to, however turned, to kinds; each splits the one ahead of it.

    A look that is alike to a colour has it as its kind, all others have numbers. In the last dict just the looks
    that are alike have the same.
    """
    wholes = wholes_of(house)
    looks = [(pane, turn) for pane in panes_from(house, sights) for turn in range(8)]
    quarters = {look: quarters_of(house, look) for look in looks}
    steps = [{look: wholes.get(look[0], 0) for look in looks}]
    finer = _split_once(quarters, steps[-1])
    while _how_many(finer) > _how_many(steps[-1]):
        steps.append(finer)
        finer = _split_once(quarters, finer)
    return steps


def _split_once(quarters, kinds):
    finer = {}
    numbers = {}
    for look, kind in kinds.items():
        if isinstance(kind, str):
            finer[look] = kind
        else:
            key = tuple([kind_in(kinds, sight) for sight in quarters[look]])
            finer[look] = numbers.setdefault(key, len(numbers))
    return finer


def _how_many(kinds):
    return len(set(list(kinds.values())))


def kind_in(kinds, sight):
    """The kind of a sight: of a colour itself."""
    return sight if isinstance(sight, str) else kinds[sight]


def spot_by_kinds(house, steps, one, other):
    """A spot at which both aren't told the same, who are of unlike kinds in the last one of the steps."""
    row = []
    # Ahead of the first of the steps that splits both, they were split already in some quarter.
    at = len([kinds for kinds in steps if kind_in(kinds, one) == kind_in(kinds, other)])
    while kind_in(steps[0], one) == kind_in(steps[0], other):
        at -= 1
        pairs = list(zip(quarters_of(house, one), quarters_of(house, other)))
        unlike = [kind_in(steps[at], first) != kind_in(steps[at], second) for first, second in pairs]
        row.append(unlike.index(True))
        one, other = pairs[row[-1]]
    further, again = _spot_of_unlike_kinds(house, steps[0], one, other)
    return (tuple(row) + further, again)


def _spot_of_unlike_kinds(house, kinds, one, other):
    # One of both at least is alike to a colour, so what matters is where the other one is told something else.
    colour, sight = kind_in(kinds, one), other
    if not isinstance(colour, str):
        colour, sight = kind_in(kinds, other), one
    others = [what for what in colours_in(house, [sight]) if what != colour]
    return spot_with(house, sight, others[0] if others else None)
