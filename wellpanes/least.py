"""The house of the fewest panes in which there are some pictures, and a paper that none has fewer."""

from wellpanes.alike import spot_with
from wellpanes.likeness import kind_in, spot_by_kinds, split_kinds
from wellpanes.panes import colours_in, quarter_of, turned


class NewHouse:
    """The panes that come to be, each by a sight of the old house and the way that led to it."""

    def __init__(self, kinds):
        self.kinds = kinds
        self.looks = {}
        self.sources = []
        self.ways = []

    def told(self, sight, way):
        """What the sight is in the new house: a colour, a look into a pane of it, or into one that comes to be."""
        kind = kind_in(self.kinds, sight)
        if isinstance(kind, str):
            return kind
        if kind not in self.looks:
            self.take_in(sight, way)
        return self.looks[kind]

    def take_in(self, sight, way):
        """One more pane, by this sight; of the turns that show the same the least is the first."""
        number = len(self.sources)
        for turn in range(8):
            self.looks.setdefault(self.kinds[turned(sight, turn)], (number, turn))
        self.sources.append(sight)
        self.ways.append(way)


def least(house, sights):
    """The least house of the sights, and the list of what they are in it."""
    new = NewHouse(split_kinds(house, sights)[-1])
    told = _take_in_all(new, sights)
    return (_panes_of(house, new), told)


def _take_in_all(new, sights):
    return [new.told(sight, (at, ())) for at, sight in enumerate(sights)]


def _panes_of(house, new):
    panes = []
    # Panes come to be while the ones ahead of them are told.
    while len(panes) < len(new.sources):
        sight = new.sources[len(panes)]
        at, row = new.ways[len(panes)]
        panes.append(tuple([
            new.told(quarter_of(house, sight, quarter), (at, row + (quarter,))) for quarter in range(4)
        ]))
    return tuple(panes)


def fewest(house, sights):
    """How many panes the least house of the sights has."""
    return len(least(house, sights)[0])


def fewest_paper(house, sights):
    """A pair (ways, spots) that shows that no house of the sights has fewer panes than the least one."""
    steps = split_kinds(house, sights)
    new = NewHouse(steps[-1])
    _take_in_all(new, sights)
    _panes_of(house, new)
    spots = []
    for at, sight in enumerate(new.sources):
        spots.extend([(at, at, 0, spot) for spot in _spots_of_no_colour(house, sight)])
        for by, ahead in enumerate(new.sources[:at]):
            spots.extend([
                (by, at, turn, spot_by_kinds(house, steps, turned(ahead, turn), sight)) for turn in range(8)
            ])
    return (new.ways, spots)


def _spots_of_no_colour(house, sight):
    bottomless = spot_with(house, sight, None)
    if bottomless is not None:
        return [bottomless]
    return [spot_with(house, sight, colour) for colour in colours_in(house, [sight])[:2]]
