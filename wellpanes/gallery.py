"""A gallery of pictures by their names, kept over many deeds."""

from wellpanes.changes import joined, painted, recoloured
from wellpanes.errors import Even, NoDeed, NoName, NoPane
from wellpanes.least import least
from wellpanes.mixing import laid
from wellpanes.own import own_turns
from wellpanes.panes import beside, numbered_on, sight_at, turned
from wellpanes.turns import shown


class Noted:
    """A deed that is written into the log as it begins and as it ends, refused or not."""

    def __init__(self, entries, word):
        self.entries = entries
        self.word = word

    def __enter__(self):
        self.entries.append(("in", self.word))

    def __exit__(self, kind, value, trace):
        self.entries.append(("out", self.word))


class Gallery:
    """Pictures by their names; each deed but a refused one can be undone."""

    def __init__(self):
        # Behind each deed the least house, and the sights in it by their names, in the order of these; ahead of all
        # deeds there is nothing. What stands here is never changed.
        self.states = [((), {})]
        self.entries = []

    def hang(self, name, house, sight):
        """The name is that picture's now."""
        with Noted(self.entries, "hang"):
            ahead = self.states[-1][0]
            self._name(name, (beside(ahead, house), numbered_on(sight, len(ahead))))

    def take(self, name):
        """The picture is there no more."""
        with Noted(self.entries, "take"):
            self._refuse_unknown([name])
            house, pictures = self.states[-1]
            self._keep(house, {other: pictures[other] for other in pictures if other != name})

    def turn(self, name, by):
        """The picture is turned."""
        with Noted(self.entries, "turn"):
            self._refuse_unknown([name])
            house, pictures = self.states[-1]
            self._name(name, (house, turned(pictures[name], by)))

    def paint(self, name, row, colour):
        """The picture has this colour where the row leads to."""
        with Noted(self.entries, "paint"):
            self._refuse_unknown([name])
            house, pictures = self.states[-1]
            self._name(name, painted(house, pictures[name], row, colour))

    def set_in(self, name, row, other, *, by=0):
        """The picture has the other one, turned, where the row leads to."""
        with Noted(self.entries, "set_in"):
            self._refuse_unknown([name, other])
            house, pictures = self.states[-1]
            self._name(name, painted(house, pictures[name], row, turned(pictures[other], by)))

    def join(self, name, four):
        """The name is that of the picture whose quarters are those of these four names."""
        with Noted(self.entries, "join"):
            self._refuse_unknown(four)
            house, pictures = self.states[-1]
            self._name(name, joined(house, [pictures[each] for each in four]))

    def lay(self, name, one, other, *, bare):
        """The name is that of one laid over other, one seen through where it is bare."""
        with Noted(self.entries, "lay"):
            self._refuse_unknown([one, other])
            house, pictures = self.states[-1]
            self._name(name, laid(house, pictures[one], pictures[other], bare=bare))

    def recolour(self, name, colours):
        """The picture's colours are exchanged by the dict."""
        with Noted(self.entries, "recolour"):
            self._refuse_unknown([name])
            house, pictures = self.states[-1]
            self._name(name, recoloured(house, pictures[name], colours))

    def repaint(self, name, row, quarter, colour):
        """The picture that is seen at the row has this quarter painted, wherever in all pictures it is seen."""
        with Noted(self.entries, "repaint"):
            self._refuse_unknown([name])
            house, pictures = self.states[-1]
            look = sight_at(house, pictures[name], row)
            # In a least house what is alike to a colour is this colour.
            if isinstance(look, str):
                raise NoPane(name)
            turns = own_turns(house, look)
            if len(turns) > 1:
                raise Even(tuple(turns))
            self._keep(_with_quarter(house, look, quarter, colour), pictures)

    def undo(self):
        """Whether there was a deed, the last one of which is as if it hadn't been now."""
        with Noted(self.entries, "undo"):
            if len(self.states) == 1:
                return False
            self.states.pop()
            return True

    def names(self):
        """The rising list of the names."""
        return list(self.states[-1][1])

    def house(self):
        """The least house of all pictures, in the order of their names."""
        return self.states[-1][0]

    def sight(self, name):
        """What the picture is in the house."""
        self._refuse_unknown([name])
        return self.states[-1][1][name]

    def same(self, one, other):
        """Whether both pictures are alike."""
        self._refuse_unknown([one, other])
        pictures = self.states[-1][1]
        # In a least house alike pictures are told as one and the same sight.
        return pictures[one] == pictures[other]

    def likes(self):
        """The list of the rising lists of names of pictures that come of one another by some turn."""
        alike_ones = {}
        # No two panes of a least house are alike under any turn.
        for name, sight in self.states[-1][1].items():
            alike_ones.setdefault(sight if isinstance(sight, str) else sight[0], []).append(name)
        return list(alike_ones.values())

    def deeds(self):
        """How many deeds are done and not undone."""
        return len(self.states) - 1

    def as_of(self, many):
        """A gallery of its own as this one was behind so many deeds, its log empty."""
        if not 0 <= many < len(self.states):
            raise NoDeed(many)
        told = Gallery()
        told.states = self.states[:many + 1]
        return told

    def twin(self):
        """A gallery of its own as this one is, its log empty."""
        return self.as_of(self.deeds())

    def log(self):
        """The list of ("in", word) and ("out", word) of all deeds, refused ones too."""
        return list(self.entries)

    def __eq__(self, other):
        return isinstance(other, Gallery) and self.states[-1] == other.states[-1]

    def __len__(self):
        return len(self.states[-1][1])

    def _refuse_unknown(self, names):
        for name in names:
            if name not in self.states[-1][1]:
                raise NoName(name)

    def _name(self, name, made):
        """The name is that of the sight now: made is a pair (house, sight), the house begins with the last one kept."""
        house, sight = made
        pictures = self.states[-1][1]
        self._keep(house, {**pictures, name: sight})

    def _keep(self, house, pictures):
        """One more deed is done, behind which there are these pictures, by sights of this house."""
        names = sorted(pictures)
        new, sights = least(house, [pictures[name] for name in names])
        self.states.append((new, dict(zip(names, sights))))


def _with_quarter(house, look, quarter, colour):
    """The house in which the pane looked into has the colour where this quarter of the look shows it."""
    number, turn = look
    pane = list(house[number])
    pane[shown(turn, quarter)] = colour
    return house[:number] + (tuple(pane),) + house[number + 1:]
