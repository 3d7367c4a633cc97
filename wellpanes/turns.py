"""The eight turns and flips of a square."""

from wellpanes.kinds import is_number
from wellpanes.words import SHOWN


def is_turn(thing):
    """Whether it is a number from 0 to 7."""
    return is_number(thing) and 0 <= thing <= 7


def shown(turn, quarter):
    """The picture's quarter that stands at this quarter once the picture is turned."""
    return SHOWN[turn][quarter]


def behind(one, other):
    """The turn that does what one does, and then what other does."""
    # A flip behind one makes one's quarter turns go the other way about.
    quarters = other - one if other > 3 else other + one
    flipped = (one > 3) != (other > 3)
    return quarters % 4 + (4 if flipped else 0)


def back(turn):
    """The turn that undoes it."""
    # Each turn with a flip in it undoes itself.
    return turn if turn > 3 else -turn % 4


def row_seen(turn, row):
    """What is shown at each quarter of the row once the picture is turned."""
    return tuple([shown(turn, quarter) for quarter in row])


def yard_of(turns):
    """The rising list of all turns that come of some of these, none too, behind one another."""
    yard = [0]
    waiting = [0]
    while waiting:
        one = waiting.pop()
        for other in turns:
            further = behind(one, other)
            if further not in yard:
                yard.append(further)
                waiting.append(further)
    return sorted(yard)
