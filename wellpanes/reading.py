"""What words say: sights, rows and rounds of quarters, single figures; None of a word that is not so written."""

from wellpanes.kinds import is_colour

_FIGURES = "0123456789"
_TURNS = "01234567"
_QUARTERS = "0123"


def rows_of(text):
    """The list of the rows of a text, parted by line feeds; the bare text has none."""
    return text.split("\n") if text else []


def colour_in(word):
    """The colour, or the name, that is written so."""
    return word if is_colour(word) else None


def sight_in(word):
    """The sight that is written as a colour, or as the number of a pane, a dot and a turn."""
    if is_colour(word):
        return word
    number, _, turn = word.partition(".")
    if not _is_plain_number(number) or turn_in(turn) is None:
        return None
    return (int(number), turn_in(turn))


def _is_plain_number(word):
    return _is_written_in(word, _FIGURES) and (word == "0" or word[0] != "0")


def _is_written_in(word, figures):
    return len(word) > 0 and all([sign in figures for sign in word])


def turn_in(word):
    """The turn that is written as one figure."""
    return _one_figure(word, _TURNS)


def quarter_in(word):
    """The quarter that is written as one figure."""
    return _one_figure(word, _QUARTERS)


def _one_figure(word, figures):
    return int(word) if len(word) == 1 and word in figures else None


def round_in(word):
    """The quarters that are written as their figures, one at least."""
    return tuple([int(sign) for sign in word]) if _is_written_in(word, _QUARTERS) else None


def row_in(word):
    """The same, `-` for none."""
    return () if word == "-" else round_in(word)


# A name is written as a colour is, a depth as a quarter.
_READERS = {
    "name": colour_in,
    "colour": colour_in,
    "sight": sight_in,
    "row": row_in,
    "round": round_in,
    "turn": turn_in,
    "quarter": quarter_in,
    "depth": quarter_in,
}


def value_in(kind, word):
    """What the word says, kind one of the words above."""
    reader = _READERS[kind]
    return reader(word)
