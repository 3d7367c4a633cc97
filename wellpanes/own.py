"""By which turns a picture is itself, and by which it comes to be another one."""

from wellpanes.alike import alike
from wellpanes.panes import turned


def own_turns(house, sight):
    """The rising list of the turns by which the sight, turned, is alike to itself."""
    return turns_between(house, sight, sight)


def turns_between(house, one, other):
    """The rising list of the turns by which one, turned, is alike to other."""
    return [turn for turn in range(8) if alike(house, turned(one, turn), other)]
