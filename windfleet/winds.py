"""Winds as they are told, by boxes, and weathers, which tell them one by one."""

from windfleet.kinds import are_rising, are_wholes_from, is_tuple_of, is_tuple_to, is_whole, is_whole_from
from windfleet.lands import is_room, is_square, room_has

MOST_ROWS = 8
MOST_LET = 9
STRONGEST = 2
CALM = (0, 0)


def is_winds(land, thing):
    """Whether it is winds of the land."""
    return is_tuple_to(thing, MOST_ROWS) and all([is_wind_row(land, row) for row in thing])


def is_wind_row(land, thing):
    """Whether it is a room of the land and the bounds of the winds there."""
    return is_tuple_of(thing, 2) and is_room(land, thing[0]) and are_bounds(thing[1])


def are_bounds(thing):
    """Whether it is bounds of winds, not turned about, that let no more than may be."""
    if not is_tuple_of(thing, 4) or not are_wholes_from(thing, -STRONGEST, STRONGEST):
        return False
    lx, hx, ly, hy = thing
    return lx <= hx and ly <= hy and (hx - lx + 1) * (hy - ly + 1) <= MOST_LET


def winds_at(winds, x, y, beat):
    """The winds that may be at the square at the beat, rising."""
    for room, (lx, hx, ly, hy) in winds:
        if room_has(room, x, y, beat):
            return tuple([(wx, wy) for wx in range(lx, hx + 1) for wy in range(ly, hy + 1)])
    return (CALM,)


def may_blow(winds, x, y, beat, thing):
    """Whether it is a wind that may be at the square at the beat."""
    # A truth equals 0 or 1, so what merely equals a wind that may be isn't always one.
    return is_tuple_of(thing, 2) and all([is_whole(part) for part in thing]) and thing in winds_at(winds, x, y, beat)


def is_weather(land, winds, thing):
    """Whether it is a weather of these winds of the land."""
    if not isinstance(thing, tuple) or not all([is_weather_row(land, winds, row) for row in thing]):
        return False
    return are_rising([place for place, wind in thing])


def is_weather_row(land, winds, thing):
    """Whether it is a square and a beat below day, and a wind that may be there then."""
    if not is_tuple_of(thing, 2) or not is_tuple_of(thing[0], 3):
        return False
    x, y, beat = thing[0]
    if not all([is_whole(part) for part in thing[0]]) or not is_square(land, x, y):
        return False
    return is_whole_from(beat, 0, land.day - 1) and may_blow(winds, x, y, beat, thing[1])


def wind_by(winds, weather, x, y, beat):
    """The wind at the square at the beat by the weather, the least that may be where it tells none."""
    for place, wind in weather:
        if place == (x, y, beat):
            return wind
    return winds_at(winds, x, y, beat)[0]
