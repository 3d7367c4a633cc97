"""Houses, sights and spots as texts, and back."""

from wellpanes.errors import BadRow
from wellpanes.reading import round_in, row_in, rows_of, sight_in


def house_text(house):
    """A row for each pane, its word ahead of its four sights."""
    return "\n".join([f"pane {pane_text(pane)}" for pane in house])


def house_in(text):
    """The house whose text it is; refused with the number of the first row at fault."""
    rows = rows_of(text)
    house = []
    for at, row in enumerate(rows):
        pane = _pane_in(row, len(rows))
        if pane is None:
            raise BadRow(at)
        house.append(pane)
    return tuple(house)


def _pane_in(row, many):
    words = row.split(" ")
    if len(words) != 5 or words[0] != "pane":
        return None
    pane = [sight_in(word) for word in words[1:]]
    return tuple(pane) if all([_is_sight_of(sight, many) for sight in pane]) else None


def _is_sight_of(sight, many):
    return sight is not None and (isinstance(sight, str) or sight[0] < many)


def pane_text(pane):
    """The four sights of a pane, by blanks."""
    return " ".join([sight_text(sight) for sight in pane])


def sight_text(sight):
    """A colour as it is, a look as its pane, a dot and its turn."""
    if isinstance(sight, str):
        return sight
    pane, turn = sight
    return f"{pane}.{turn}"


def spot_text(spot):
    """The figures of the row, `-` where it is bare, a blank, and those of the round."""
    row, again = spot
    return f"{_row_text(row)} {_row_text(again)}"


def _row_text(row):
    return "".join([str(quarter) for quarter in row]) if row else "-"


def spot_in(text):
    """The spot whose text it is; refused as the row 0."""
    words = text.split(" ")
    if len(words) == 2:
        row, again = row_in(words[0]), round_in(words[1])
        if row is not None and again is not None:
            return (row, again)
    raise BadRow(0)
