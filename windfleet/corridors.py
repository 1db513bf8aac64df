"""Corridors: rooms of the air that have all squares in which a flight can be."""

from windfleet.lands import do_boxes_meet
from windfleet.reach import reached


def corridor(land, winds, flight, since):
    """For each beat from since to day the least room of this beat and the next one that the flight keeps within."""
    layers = reached(land, winds, flight, since)
    rooms = []
    for at, beat in enumerate(range(since, land.day + 1)):
        places = [place for layer in layers[at:at + 2] for place in layer]
        rooms.append(box_around(places) + (beat, min(beat + 1, land.day)))
    return tuple(rooms)


def box_around(places):
    """The least box that has the squares of all the places."""
    xs = [place[0] for place in places]
    ys = [place[1] for place in places]
    return min(xs), min(ys), max(xs), max(ys)


def grown(land, rooms, by):
    """The rooms with so many squares more on each side, as far as the land goes."""
    return tuple([grown_room(land, room, by) for room in rooms])


def grown_room(land, room, by):
    """The room with so many squares more on each side, as far as the land goes."""
    x1, y1, x2, y2, first, last = room
    low, high = max(0, x1 - by), min(land.wide - 1, x2 + by)
    return low, max(0, y1 - by), high, min(land.high - 1, y2 + by), first, last


def do_clash(one, other):
    """Whether two rooms share a square at a beat."""
    return do_boxes_meet(one[:4], other[:4]) and one[4] <= other[5] and other[4] <= one[5]
