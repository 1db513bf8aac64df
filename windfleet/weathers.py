"""Weathers of runs, and flights flown under weathers."""

from windfleet.runs import add_beat, end_word, start_word, walked
from windfleet.winds import wind_by


def weather_of(land, winds, flight, since, run, *, turn=None):
    """The weather that tells the run's winds, at its squares and beats alone."""
    states, word = walked(land, winds, flight, since, run, turn=turn)
    places = [(state[0], state[1], beat) for beat, state in enumerate(states, start=since)]
    return tuple(sorted([(place, wind) for place, wind in zip(places, run)]))


def flown(land, winds, flight, since, weather, *, turn=None):
    """(states, word) of the run that the flight goes by under the weather, to its break, or to day."""
    states = [flight[1]]
    word = start_word(land, flight, since)
    beat = since
    while word is None and beat < land.day:
        x, y, step, charge = states[-1]
        word = add_beat(land, flight, since, turn, beat, states, wind_by(winds, weather, x, y, beat))
        beat += 1
    return tuple(states), end_word(land, flight, beat, states[-1], word)
