"""Checkers of what is told of one flight: a paper that lets it by, a turn and a run that break it."""

from windfleet.beats import HOME, beat_done, is_over_home, row_at
from windfleet.kinds import are_rising, is_tuple_of, is_whole, is_whole_from
from windfleet.lands import is_square
from windfleet.runs import start_word, walked
from windfleet.tasks import last_step
from windfleet.winds import winds_at


def let_holds(land, winds, flight, since, thing):
    """Whether it is a paper by which the flight is let by."""
    if not is_tuple_of(thing, 2) or not all([are_layers(land, flight, since, part) for part in thing]):
        return False
    sets = [charges_of(layer) for layer in thing[0]]
    needs = [charges_of(layer) for layer in thing[1]]
    if start_word(land, flight, since) is not None or not has_with(sets[0], flight[1]):
        return False
    for at, beat in enumerate(range(since, land.day)):
        row = row_at(flight, since, beat)
        if not leads_on(land, winds, flight, row, beat, sets[at], sets[at + 1]):
            return False
        if not leads_on(land, winds, flight, HOME, beat, needs[at], needs[at + 1]):
            return False
    if not all([has_with(charges, state) for charges, layer in zip(needs, thing[0]) for state in layer]):
        return False
    return all([is_over_home(land, flight, x, y) for x, y, step in needs[-1]])


def are_layers(land, flight, since, thing):
    """Whether it has, for each beat from since to day, a rising tuple of places with charges, the places unlike."""
    return is_tuple_of(thing, land.day - since + 1) and all([is_layer(land, flight, layer) for layer in thing])


def is_layer(land, flight, thing):
    """Whether it is a rising tuple of places with charges, the places unlike."""
    if not isinstance(thing, tuple) or not all([is_charged_place(land, flight, state) for state in thing]):
        return False
    return are_rising([state[:3] for state in thing])


def is_charged_place(land, flight, thing):
    """Whether it is a place of the flight, and a charge, however great."""
    return is_tuple_of(thing, 4) and is_place(land, flight, thing[:3]) and is_whole(thing[3]) and thing[3] >= 0


def is_place(land, flight, thing):
    """Whether it is a square of the land and a step of the flight's task."""
    if not is_tuple_of(thing, 3) or not all([is_whole(part) for part in thing]):
        return False
    x, y, step = thing
    return is_square(land, x, y) and 0 <= step <= last_step(flight[3])


def charges_of(layer):
    """The charges of a layer by its places."""
    return {(x, y, step): charge for x, y, step, charge in layer}


def has_with(charges, state):
    """Whether the state's place is among those of the charges, with no more charge than it has."""
    x, y, step, charge = state
    return (x, y, step) in charges and charges[(x, y, step)] <= charge


def leads_on(land, winds, flight, row, beat, charges, behind):
    """Whether by the row and each wind nothing breaks, and what comes is among those behind."""
    for x, y, step in charges:
        state = (x, y, step, charges[(x, y, step)])
        for wind in winds_at(winds, x, y, beat):
            come, word = beat_done(land, flight, row, beat, state, wind)
            if word is not None or not has_with(behind, come):
                return False
    return True


def break_holds(land, winds, flight, since, thing):
    """Whether it is (turn, run), a turn and a run with it that breaks, or is late."""
    if not is_tuple_of(thing, 2) or not is_whole_from(thing[0], since, land.day):
        return False
    told = walked(land, winds, flight, since, thing[1], turn=thing[0])
    return told is not None and told[1] is not None
