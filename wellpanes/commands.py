"""The rows that a desk takes: a word, and what is written behind it."""

from wellpanes.reading import value_in

_FORMS = {
    "pane": "sight sight sight sight",
    "hang": "name sight",
    "take": "name",
    "turn": "name turn",
    "paint": "name row colour",
    "set": "name row name turn",
    "join": "name name name name name",
    "lay": "name name name colour",
    "recolour": "name colour colour",
    "repaint": "name row quarter colour",
    "undo": "",
    "names": "",
    "likes": "",
    "house": "",
    "sight": "name",
    "shares": "name",
    "at": "name row round",
    "same": "name name",
    "own": "name",
    "drawn": "name depth",
}


def command_in(row):
    """The pair (word, list of what stands behind it); None of a row that is not so written."""
    words = row.split(" ")
    if words[0] not in _FORMS:
        return None
    kinds = _FORMS[words[0]].split()
    if len(words) != 1 + len(kinds):
        return None
    values = [value_in(kind, word) for kind, word in zip(kinds, words[1:])]
    return None if None in values else (words[0], values)
