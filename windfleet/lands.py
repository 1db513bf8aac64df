"""Lands of squares, their boxes and rooms."""

from windfleet.bounds import DAY
from windfleet.errors import NoLand
from windfleet.kinds import are_wholes_from, is_span, is_tuple_of, is_tuple_to, is_whole_from

WIDEST = 12
LONGEST_DAY = 24
HIGHEST = 9
MOST_ROOMS = 8
MOST_PADS = 4
MOST_ON_PAD = 4


class Land:
    """A land: its squares, its day, its heights, barred and people's rooms, and pads."""

    def __init__(self, wide, high, *, day=DAY, heights=None, barred=(), people=(), pads=()):
        if not is_whole_from(wide, 1, WIDEST):
            raise NoLand("wide")
        self.wide = wide
        if not is_whole_from(high, 1, WIDEST):
            raise NoLand("high")
        self.high = high
        if not is_whole_from(day, 1, LONGEST_DAY):
            raise NoLand("day")
        self.day = day
        if heights is not None and not are_heights(self, heights):
            raise NoLand("heights")
        self.heights = heights
        if not are_rooms(self, barred):
            raise NoLand("barred")
        self.barred = barred
        if not are_rooms(self, people):
            raise NoLand("people")
        self.people = people
        if not are_pads(self, pads):
            raise NoLand("pads")
        self.pads = pads

    def __len__(self):
        return len(range(self.wide * self.high))

    def __eq__(self, other):
        return (
            isinstance(other, Land)
            and self.wide == other.wide
            and self.high == other.high
            and self.day == other.day
            and self.heights == other.heights
            and self.barred == other.barred
            and self.people == other.people
            and self.pads == other.pads
        )

    def pad_at(self, x, y):
        """The number of the pad that has the square, or None."""
        for number, pad in enumerate(self.pads):
            if box_has(pad[:4], x, y):
                return number
        return None

    def hurts(self, x, y, beat, ceiling):
        """The first word by which the square hurts at the beat, or None."""
        if not is_square(self, x, y):
            return "out"
        if self.heights is None:
            height = 0
        else:
            height = self.heights[y][x]
        if height > ceiling:
            return "high"
        for room in self.barred:
            if room_has(room, x, y, beat):
                return "barred"
        for room in self.people:
            if room_is_beside(room, x, y, beat):
                return "people"
        return None


def is_square(land, x, y):
    """Whether two whole numbers are a square of the land."""
    return 0 <= x < land.wide and 0 <= y < land.high


def is_box(land, thing):
    """Whether it is a box of the land."""
    if not is_tuple_of(thing, 4):
        return False
    x1, y1, x2, y2 = thing
    return is_span(x1, x2, land.wide - 1) and is_span(y1, y2, land.high - 1)


def is_room(land, thing):
    """Whether it is a room of the land."""
    return is_tuple_of(thing, 6) and is_box(land, thing[:4]) and is_span(thing[4], thing[5], land.day)


def box_has(box, x, y):
    """Whether the box has the square."""
    x1, y1, x2, y2 = box
    return x1 <= x <= x2 and y1 <= y <= y2


def room_has(room, x, y, beat):
    """Whether the room has the square at the beat."""
    x1, y1, x2, y2, first, last = room
    return x1 <= x <= x2 and y1 <= y <= y2 and first <= beat <= last


def room_is_beside(room, x, y, beat):
    """Whether the room has, at the beat, the square or one of the eight around it."""
    x1, y1, x2, y2, first, last = room
    return x1 - 1 <= x <= x2 + 1 and y1 - 1 <= y <= y2 + 1 and first <= beat <= last


def are_heights(land, thing):
    """Whether it is a row of heights for each y of the land."""
    return is_tuple_of(thing, land.high) and all([is_height_row(land, row) for row in thing])


def is_height_row(land, thing):
    """Whether it is a height for each x of the land."""
    return is_tuple_of(thing, land.wide) and are_wholes_from(thing, 0, HIGHEST)


def are_rooms(land, thing):
    """Whether it is as many rooms as a land may have of one sort."""
    return is_tuple_to(thing, MOST_ROOMS) and all([is_room(land, room) for room in thing])


def are_pads(land, thing):
    """Whether it is as many pads as a land may have, none over another."""
    if not is_tuple_to(thing, MOST_PADS) or not all([is_pad(land, pad) for pad in thing]):
        return False
    for at, pad in enumerate(thing):
        if any([do_boxes_meet(pad[:4], other[:4]) for other in thing[:at]]):
            return False
    return True


def is_pad(land, thing):
    """Whether it is a pad of the land."""
    return is_tuple_of(thing, 5) and is_box(land, thing[:4]) and is_whole_from(thing[4], 1, MOST_ON_PAD)


def do_boxes_meet(one, other):
    """Whether two boxes share a square."""
    x1, y1, x2, y2 = one
    u1, v1, u2, v2 = other
    return x1 <= u2 and u1 <= x2 and y1 <= v2 and v1 <= y2
