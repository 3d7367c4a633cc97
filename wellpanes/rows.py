"""The ways from a place to further ones, by the numbers of the parts that each place has."""

from collections import deque


def shortest_row(start, parts_of, is_sought):
    """The shortest row of parts to a place that is sought, of these the least; None where no row leads to one."""
    came = {start: None}
    waiting = deque([start])
    while waiting:
        place = waiting.popleft()
        if is_sought(place):
            return _row_to(came, place)
        for at, part in enumerate(parts_of(place)):
            if part not in came:
                came[part] = (place, at)
                waiting.append(part)
    return None


def _row_to(came, place):
    row = []
    step = came[place]
    while step is not None:
        row.append(step[1])
        step = came[step[0]]
    return tuple(row[::-1])


def places_from(start, parts_of):
    """The list of all places to which some row leads, the start ahead of all."""
    places = [start]
    seen = {start: True}
    waiting = [start]
    while waiting:
        for part in parts_of(waiting.pop()):
            if part not in seen:
                seen[part] = True
                places.append(part)
                waiting.append(part)
    return places
