"""Where winds can lead a flight, as if charge below 0 broke nothing."""

from windfleet.beats import beat_gone, row_at
from windfleet.runs import start_word
from windfleet.winds import winds_at


def reached(land, winds, flight, since):
    """For each beat from since to day the rising tuple of all (x, y, step, least charge) that runs come to."""
    return tuple([shown(layer) for layer in layers_to(land, winds, flight, since, land.day)])


def shown(layer):
    """What is told of a layer."""
    return tuple([(*place, layer[place][0]) for place in sorted(layer)])


def led(land, winds, flight, since, beat, x, y, step):
    """A run that leads to (x, y, step) at the beat with the least charge, or None."""
    if not since <= beat <= land.day:
        return None
    layers = layers_to(land, winds, flight, since, beat)
    if (x, y, step) not in layers[-1]:
        return None
    return run_to(layers, (x, y, step))


def run_to(layers, place):
    """The run that leads to the place of the last layer with the charge that is kept there."""
    run = []
    for layer in reversed(layers[1:]):
        least, place, wind = layer[place]
        run.append(wind)
    run.reverse()
    return tuple(run)


def layers_to(land, winds, flight, since, beat):
    """For each beat from since to beat a dict: by each (x, y, step) what next_layer keeps of it."""
    x, y, step, charge = flight[1]
    first = {}
    if start_word(land, flight, since) is None:
        first[(x, y, step)] = (charge, None, None)
    layers = [first]
    for ahead in range(since, beat):
        layers.append(next_layer(land, winds, flight, row_at(flight, since, ahead), ahead, layers[-1]))
    return layers


def next_layer(land, winds, flight, row, beat, layer):
    """By each (x, y, step) that comes behind the beat: its least charge, from where, and by which wind.

    No beat makes of less charge more, so the least charges ahead lead to the least ones behind.
    """
    behind = {}
    for place in layer:
        x, y, step = place
        state = (x, y, step, layer[place][0])
        for wind in winds_at(winds, x, y, beat):
            come, word = beat_gone(land, flight, row, beat, state, wind, True)
            if word is None:
                keep_least(behind, come, place, wind)
    return behind


def keep_least(layer, state, place, wind):
    """Keeps a state in the layer where none with as little charge is there."""
    x, y, step, charge = state
    if (x, y, step) not in layer or charge < layer[(x, y, step)][0]:
        layer[(x, y, step)] = (charge, place, wind)
