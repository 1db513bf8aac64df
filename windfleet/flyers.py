"""Flyers, their ways, and flights."""

from windfleet.kinds import are_wholes_from, is_tuple_of, is_tuple_to, is_whole, is_whole_from
from windfleet.lands import is_square
from windfleet.tasks import is_task, last_step

FARTHEST = 2
HIGHEST_CEILING = 9
FULLEST = 99
MOST_GAIN = 9
MOST_ROWS = 24
FARTHEST_AIM = 11


def is_flyer(thing):
    """Whether it is a flyer."""
    if not is_tuple_of(thing, 4):
        return False
    reach, ceiling, full, gain = thing
    if not is_whole_from(reach, 0, FARTHEST) or not is_whole_from(ceiling, 0, HIGHEST_CEILING):
        return False
    return is_whole_from(full, 1, FULLEST) and is_whole_from(gain, 1, MOST_GAIN)


def is_way(thing):
    """Whether it is a way."""
    return is_tuple_to(thing, MOST_ROWS) and all([is_row(row) for row in thing])


def is_row(thing):
    """Whether it is a row of a way."""
    if not isinstance(thing, tuple) or len(thing) == 0:
        return False
    if thing[0] == "go":
        return len(thing) == 3 and are_wholes_from(thing[1:], -FARTHEST, FARTHEST)
    if thing[0] == "aim":
        return len(thing) == 3 and are_wholes_from(thing[1:], 0, FARTHEST_AIM)
    return thing in (("stand",), ("home",))


def is_flight(land, thing):
    """Whether it is a flight of the land."""
    if not is_tuple_of(thing, 5):
        return False
    flyer, state, way, task, home = thing
    if not is_flyer(flyer) or not is_way(way) or not is_whole_from(home, 0, len(land.pads) - 1):
        return False
    return (task is None or is_task(land, task)) and is_state(land, flyer, task, state)


def is_state(land, flyer, task, thing):
    """Whether it is a state of that flyer with that task, or None, on the land."""
    if not is_tuple_of(thing, 4) or not all([is_whole(part) for part in thing]):
        return False
    x, y, step, charge = thing
    return is_square(land, x, y) and 0 <= step <= last_step(task) and 0 <= charge <= flyer[2]
