"""Where winds can lead a flight, on its way or turned home at any beat, up to the first break."""

from windfleet.beats import HOME, beat_done, row_at
from windfleet.reach import keep_least
from windfleet.winds import winds_at


def way_layers(land, winds, flight, since):
    """(layers, fault): the layers by the flight's way to day, or to a fault by which one of the last breaks."""
    layers = [{}]
    keep_least(layers[0], flight[1], None, None)
    for beat in range(since, land.day):
        row = row_at(flight, since, beat)
        behind, fault = spread(land, winds, flight, row, beat, layers[-1])
        if fault is not None:
            return layers, fault
        layers.append(behind)
    return layers, None


def home_layers(land, winds, flight, since, sets):
    """(layers, fault) likewise, by the row home, turned to at each beat from all of the sets of that beat."""
    layers = []
    layer = {}
    for beat, turning in enumerate(sets, start=since):
        for place in turning:
            keep_least(layer, (*place, turning[place][0]), None, None)
        layers.append(layer)
        if beat < land.day:
            layer, fault = spread(land, winds, flight, HOME, beat, layer)
            if fault is not None:
                return layers, fault
    return layers, None


def spread(land, winds, flight, row, beat, layer):
    """(layer behind the beat, None), or (a part of it, fault), the fault (place, wind) by which something breaks.

    What breaks with some charge does so with less, so the least charges tell whether anything does.
    """
    behind = {}
    for place in layer:
        x, y, step = place
        state = (x, y, step, layer[place][0])
        for wind in winds_at(winds, x, y, beat):
            come, word = beat_done(land, flight, row, beat, state, wind)
            if word is not None:
                return behind, (place, wind)
            keep_least(behind, come, place, wind)
    return behind, None
