"""Pictures that are painted deep within, joined of four, or have their colours exchanged."""

from wellpanes.panes import panes_from, quarters_of


def painted(house, sight, row, what):
    """The house and a sight of it: what, where the row leads to in the sight, and the sight elsewhere."""
    if not row:
        return (house, what)
    panes = []
    here = sight
    for quarter in row:
        pane = quarters_of(house, here)
        here = pane[quarter]
        panes.append(pane)
        pane[quarter] = (len(house) + len(panes), 0)
    panes[-1][row[-1]] = what
    return (house + tuple([tuple(pane) for pane in panes]), (len(house), 0))


def joined(house, four):
    """The house and a sight of it, of which the quarters are these four sights."""
    return (house + (tuple(four),), (len(house), 0))


def recoloured(house, sight, colours):
    """The house and a sight of it that has for each colour of the sight the one that the dict has, if it has one."""
    panes = panes_from(house, [sight])
    numbers = {pane: len(house) + at for at, pane in enumerate(panes)}

    def exchanged(seen):
        if isinstance(seen, str):
            return colours.get(seen, seen)
        return (numbers[seen[0]], seen[1])
    further = [tuple([exchanged(seen) for seen in house[pane]]) for pane in panes]
    return (house + tuple(further), exchanged(sight))
