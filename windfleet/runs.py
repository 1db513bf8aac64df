"""Runs: the winds that a flight meets, beat by beat."""

from windfleet.beats import beat_done, is_over_home, row_at
from windfleet.winds import may_blow


def walked(land, winds, flight, since, thing, *, turn=None):
    """(states, word) of a run; None of anything that is none, or goes on behind a break."""
    if not isinstance(thing, tuple) or len(thing) > land.day - since:
        return None
    states = [flight[1]]
    word = start_word(land, flight, since)
    for beat, wind in enumerate(thing, start=since):
        x, y, step, charge = states[-1]
        if word is not None or not may_blow(winds, x, y, beat, wind):
            return None
        word = add_beat(land, flight, since, turn, beat, states, wind)
    return tuple(states), end_word(land, flight, since + len(thing), states[-1], word)


def start_word(land, flight, since):
    """The word by which the flight's start hurts, or None."""
    x, y, step, charge = flight[1]
    return land.hurts(x, y, since, flight[0][1])


def add_beat(land, flight, since, turn, beat, states, wind):
    """Adds the state behind the beat to the states, or tells the word by which it breaks."""
    row = row_at(flight, since, beat, turn=turn)
    state, word = beat_done(land, flight, row, beat, states[-1], wind)
    if word is None:
        states.append(state)
    return word


def end_word(land, flight, beat, state, word):
    """The word of a run that ends at the beat: that of its break, if any; late of one to day that isn't home."""
    if word is None and beat == land.day and not is_over_home(land, flight, state[0], state[1]):
        return "late"
    return word
