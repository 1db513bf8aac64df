"""Whether a flight is let by for every wind, whatever its turn."""

from windfleet.beats import is_over_home
from windfleet.needs import home_layers, way_layers
from windfleet.reach import run_to, shown
from windfleet.runs import start_word


def judged(land, winds, flight, since):
    """("let", paper) of a flight that is let by, else ("breaks", turn, run)."""
    if start_word(land, flight, since) is not None:
        return "breaks", since, ()
    sets, fault = way_layers(land, winds, flight, since)
    if fault is not None:
        place, wind = fault
        return "breaks", land.day, run_to(sets, place) + (wind,)
    needs, fault = home_layers(land, winds, flight, since, sets)
    if fault is not None:
        place, wind = fault
        turn, run = turned_run_to(since, sets, needs, place)
        return "breaks", turn, run + (wind,)
    for x, y, step in needs[-1]:
        if not is_over_home(land, flight, x, y):
            turn, run = turned_run_to(since, sets, needs, (x, y, step))
            return "breaks", turn, run
    return "let", (tuple([shown(layer) for layer in sets]), tuple([shown(layer) for layer in needs]))


def turned_run_to(since, sets, needs, place):
    """(turn, run): a turn and a run that lead to the place of the last of needs with the charge kept there."""
    at = len(needs) - 1
    turned = []
    least, ahead, wind = needs[at][place]
    while ahead is not None:
        turned.append(wind)
        place = ahead
        at -= 1
        least, ahead, wind = needs[at][place]
    turned.reverse()
    return since + at, run_to(sets[:at + 1], place) + tuple(turned)
