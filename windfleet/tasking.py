"""Whether a flight, let by, has its task done for all winds, for some, or for none."""

from windfleet.reach import layers_to, run_to
from windfleet.tasks import last_step


def tasked(land, winds, flight, since):
    """("sure", paper), ("never", paper), or ("perhaps", run that does it, other that doesn't)."""
    layers = layers_to(land, winds, flight, since, land.day)
    last = last_step(flight[3])
    places = sorted(layers[-1])
    done = [place for place in places if place[2] == last]
    undone = [place for place in places if place[2] != last]
    if done and undone:
        return "perhaps", run_to(layers, done[0]), run_to(layers, undone[0])
    # The last step stays, so what comes to it anywhere is at it at day.
    word = "never" if undone else "sure"
    return word, tuple([tuple(sorted(layer)) for layer in layers])
