"""The checker of what is told of a flight's task."""

from windfleet.beats import beat_gone, row_at
from windfleet.kinds import are_rising, is_tuple_of
from windfleet.lets import is_place
from windfleet.nears import unbroken
from windfleet.tasks import last_step
from windfleet.winds import winds_at


def task_holds(land, winds, flight, since, thing):
    """Whether it is ("sure", paper), ("never", paper), or ("perhaps", run, other) that is so of the flight."""
    if flight[3] is None:
        return False
    last = last_step(flight[3])
    if is_tuple_of(thing, 3) and thing[0] == "perhaps":
        ends = [end_step(land, winds, flight, since, run) for run in thing[1:]]
        return None not in ends and ends[0] == last and ends[1] != last
    if not is_tuple_of(thing, 2) or not is_task_paper(land, winds, flight, since, thing[1]):
        return False
    if thing[0] == "sure":
        return all([step == last for x, y, step in thing[1][-1]])
    return thing[0] == "never" and all([step != last for layer in thing[1] for x, y, step in layer])


def end_step(land, winds, flight, since, thing):
    """The step at the end of a run to day that doesn't break; None of anything else."""
    states = unbroken(land, winds, flight, since, thing)
    if states is None or len(states) != land.day - since + 1:
        return None
    return states[-1][2]


def is_task_paper(land, winds, flight, since, thing):
    """Whether it keeps, beat by beat, each place to which winds can lead the flight, none of which breaks."""
    if not is_tuple_of(thing, land.day - since + 1) or not all([is_place_layer(land, flight, part) for part in thing]):
        return False
    if flight[1][:3] not in thing[0]:
        return False
    for at, beat in enumerate(range(since, land.day)):
        if not places_lead_on(land, winds, flight, row_at(flight, since, beat), beat, thing[at], thing[at + 1]):
            return False
    return True


def is_place_layer(land, flight, thing):
    """Whether it is a rising tuple of places of the flight."""
    return isinstance(thing, tuple) and all([is_place(land, flight, place) for place in thing]) and are_rising(thing)


def places_lead_on(land, winds, flight, row, beat, layer, behind):
    """Whether by the row and each wind nothing breaks but by charge, and what comes is among the places behind."""
    kept = {place: True for place in behind}
    for x, y, step in layer:
        for wind in winds_at(winds, x, y, beat):
            come, word = beat_gone(land, flight, row, beat, (x, y, step, 0), wind, True)
            if word is not None or come[:3] not in kept:
                return False
    return True
