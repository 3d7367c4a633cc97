"""Unknowns that are told by sums of one another, worked out in whole numbers."""

from math import gcd, lcm


class Sums:
    """Of each unknown how many of it a sum is, the parts of the sum, and in whose parts it is."""

    def __init__(self, rows):
        self.times = {}
        self.parts = {}
        self.users = {unknown: {} for unknown in rows}
        for unknown, row in rows.items():
            self.times[unknown] = row[0]
            self.parts[unknown] = {}
            for key, number in row[1].items():
                self.add_part(unknown, key, number)

    def add_part(self, unknown, key, number):
        """So many more of the key in the unknown's sum; the unknown itself goes from there to the other side."""
        if key == unknown:
            self.times[unknown] -= number
        else:
            self.parts[unknown][key] = self.parts[unknown].get(key, 0) + number
            if key in self.users:
                self.users[key][unknown] = True

    def next_unknown(self):
        """Of the unknowns that stand among parts still, the one that is put in with the least work."""
        return min(list(self.users), key=lambda unknown: len(self.parts[unknown]) * len(self.users[unknown]))

    def put_in(self, unknown):
        """In each sum that has the unknown among its parts, the unknown's own parts come in its place."""
        users = self.users.pop(unknown)
        for key in self.parts[unknown]:
            if key in self.users:
                del self.users[key][unknown]
        for user in users:
            self.put_into(user, unknown)

    def put_into(self, user, unknown):
        """The same in the sum of this user alone."""
        number = self.parts[user].pop(unknown)
        common = gcd(number, self.times[unknown])
        factor = self.times[unknown] // common
        self.times[user] = self.times[user] * factor
        self.parts[user] = {key: part * factor for key, part in self.parts[user].items()}
        for key, part in list(self.parts[unknown].items()):
            self.add_part(user, key, part * (number // common))
        self.times[user], self.parts[user] = without_common(self.times[user], self.parts[user])


def without_common(number, parts):
    """The number and the parts, all divided by what they have in common."""
    common = number
    for part in parts.values():
        if common == 1:
            break
        common = gcd(common, part)
    return (number // common, {key: part // common for key, part in parts.items()})


def solved(rows):
    """What each unknown is.

    rows is a dict: of each unknown a pair (times, parts): so many times the unknown is the sum of its parts; parts a
    dict from unknowns and from other keys to how often they are in it. Told is a dict: of each unknown a pair
    (bottom, tops), tops a dict from the other keys to how many bottomths of them the unknown is.
    """
    sums = Sums(rows)
    order = []
    while sums.users:
        unknown = sums.next_unknown()
        sums.put_in(unknown)
        order.append(unknown)
    done = {}
    # Whatever unknown is still among the parts was put in later.
    for unknown in reversed(order):
        done[unknown] = _summed_up(sums.times[unknown], sums.parts[unknown], done)
    return done


def _summed_up(times, parts, done):
    bottom = 1
    for key in parts:
        if key in done:
            bottom = lcm(bottom, done[key][0])
    tops = {}
    for key, number in parts.items():
        under, worth = done[key] if key in done else (1, {key: 1})
        for name, top in worth.items():
            tops[name] = tops.get(name, 0) + number * top * (bottom // under)
    return without_common(times * bottom, tops)
