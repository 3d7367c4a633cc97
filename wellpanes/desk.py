"""A desk: rows of text that are done one by one to a gallery, with a text for each."""

from wellpanes.alike import parted
from wellpanes.cells import drawn
from wellpanes.commands import command_in
from wellpanes.errors import BadRow, Even, NoName, NoPane
from wellpanes.gallery import Gallery
from wellpanes.own import own_turns
from wellpanes.panes import is_house, is_sight
from wellpanes.reading import rows_of
from wellpanes.shares import shares
from wellpanes.spots import colour_at
from wellpanes.texts import pane_text, sight_text, spot_text

_DONE = "done"
_NOTHING = "-"


class Desk:
    """A gallery, and the house at hand, whose panes are put to it one by one."""

    def __init__(self):
        self.gallery = Gallery()
        self.panes = []


def _pane(desk, *sights):
    desk.panes.append(sights)
    return _DONE


def _hang(desk, name, sight):
    house = tuple(desk.panes)
    desk.panes = []
    if not is_house(house) or not is_sight(house, sight):
        return "refused NoHouse"
    desk.gallery.hang(name, house, sight)
    return _DONE


def _take(desk, name):
    desk.gallery.take(name)
    return _DONE


def _turn(desk, name, by):
    desk.gallery.turn(name, by)
    return _DONE


def _paint(desk, name, row, colour):
    desk.gallery.paint(name, row, colour)
    return _DONE


def _set_in(desk, name, row, other, by):
    desk.gallery.set_in(name, row, other, by=by)
    return _DONE


def _join(desk, name, *four):
    desk.gallery.join(name, four)
    return _DONE


def _lay(desk, name, one, other, bare):
    desk.gallery.lay(name, one, other, bare=bare)
    return _DONE


def _recolour(desk, name, colour, by):
    desk.gallery.recolour(name, {colour: by})
    return _DONE


def _repaint(desk, name, row, quarter, colour):
    desk.gallery.repaint(name, row, quarter, colour)
    return _DONE


def _undo(desk):
    return "yes" if desk.gallery.undo() else "no"


def _names(desk):
    return _row_of(" ", desk.gallery.names())


def _likes(desk):
    return _row_of("; ", [_row_of(" ", names) for names in desk.gallery.likes()])


def _house(desk):
    return _row_of("; ", [pane_text(pane) for pane in desk.gallery.house()])


def _sight(desk, name):
    return sight_text(desk.gallery.sight(name))


def _shares(desk, name):
    told = shares(desk.gallery.house(), desk.gallery.sight(name))
    return _row_of("; ", [f"{_colour_text(what)} {top}/{bottom}" for what, (top, bottom) in told])


def _at(desk, name, row, again):
    return _colour_text(colour_at(desk.gallery.house(), desk.gallery.sight(name), (row, again)))


def _same(desk, one, other):
    if desk.gallery.same(one, other):
        return "yes"
    spot = parted(desk.gallery.house(), desk.gallery.sight(one), desk.gallery.sight(other))
    return f"no {spot_text(spot)}"


def _own(desk, name):
    return _row_of(" ", [str(turn) for turn in own_turns(desk.gallery.house(), desk.gallery.sight(name))])


def _drawn(desk, name, depth):
    rows = drawn(desk.gallery.house(), desk.gallery.sight(name), depth)
    return _row_of("/", [_row_of(" ", [_colour_text(cell) for cell in row]) for row in rows])


def _row_of(between, words):
    """The words with this between them, `-` of none."""
    row = words[0] if words else _NOTHING
    for word in words[1:]:
        row = row + between + word
    return row


def _colour_text(what):
    return _NOTHING if what is None else what


_ACTIONS = {
    "pane": _pane,
    "hang": _hang,
    "take": _take,
    "turn": _turn,
    "paint": _paint,
    "set": _set_in,
    "join": _join,
    "lay": _lay,
    "recolour": _recolour,
    "repaint": _repaint,
    "undo": _undo,
    "names": _names,
    "likes": _likes,
    "house": _house,
    "sight": _sight,
    "shares": _shares,
    "at": _at,
    "same": _same,
    "own": _own,
    "drawn": _drawn,
}


def answers(text):
    """The list of the answers to the rows of the text; refused with the number of the first row at fault."""
    commands = []
    for at, row in enumerate(rows_of(text)):
        command = command_in(row)
        if command is None:
            raise BadRow(at)
        commands.append(command)
    desk = Desk()
    return [_answer(desk, word, values) for word, values in commands]


def _answer(desk, word, values):
    action = _ACTIONS[word]
    try:
        return action(desk, *values)
    except NoName:
        return "refused NoName"
    except NoPane:
        return "refused NoPane"
    except Even:
        return "refused Even"
