"""Findings: what was told of lands, winds and flights by their texts, checked as one thing."""

from windfleet.errors import NoText
from windfleet.flighttexts import read_flight
from windfleet.kinds import is_tuple_of, is_whole, is_whole_from
from windfleet.landtexts import read_land
from windfleet.lets import break_holds, let_holds
from windfleet.nears import apart_holds, near_holds, unbroken
from windfleet.taskchecks import task_holds
from windfleet.weathers import flown
from windfleet.winds import is_weather
from windfleet.windtexts import read_winds

# How many parts a finding has, by its word.
OF_ONE = {"let": 6, "breaks": 7, "leads": 7, "task": 6, "flown": 7}
OF_TWO = {"apart": 8, "near": 9}
MOST_SQUARES = 36
LONGEST_DAY = 12
MOST_LET = 3
FARTHEST_APART = 3


def finding_holds(thing):
    """Whether it is a finding that holds."""
    if not isinstance(thing, tuple) or len(thing) == 0 or not isinstance(thing[0], str):
        return False
    try:
        if len(thing) == OF_ONE.get(thing[0]):
            return is_so_of_one(thing)
        return len(thing) == OF_TWO.get(thing[0]) and is_so_of_two(thing)
    except NoText:
        return False


def is_so_of_one(thing):
    """Whether it is so of one flight; NoText where land, winds or flight are no texts."""
    land = read_land(thing[1])
    winds = read_winds(land, thing[2])
    flight = read_flight(land, thing[3])
    since = thing[4]
    if not is_whole_from(since, 0, land.day):
        return False
    if thing[0] == "let":
        return let_holds(land, winds, flight, since, thing[5])
    if thing[0] == "breaks":
        return break_holds(land, winds, flight, since, thing[5:])
    if thing[0] == "leads":
        return does_lead(land, winds, flight, since, thing[5], thing[6])
    if thing[0] == "task":
        return task_holds(land, winds, flight, since, thing[5])
    return is_flown(land, winds, flight, since, thing[5], thing[6])


def does_lead(land, winds, flight, since, run, place):
    """Whether it is a run without a break that ends at the place, (x, y, step)."""
    states = unbroken(land, winds, flight, since, run)
    return states is not None and are_the_wholes(place, states[-1][:3])


def is_flown(land, winds, flight, since, weather, state):
    """Whether it is a weather under which the flight has the state last, and no word."""
    if not is_weather(land, winds, weather):
        return False
    states, word = flown(land, winds, flight, since, weather)
    return word is None and are_the_wholes(state, states[-1])


def are_the_wholes(thing, numbers):
    """Whether it is just these whole numbers."""
    # A truth equals 0 or 1, so what merely equals the numbers isn't always these.
    return is_tuple_of(thing, len(numbers)) and all([is_whole(part) for part in thing]) and thing == numbers


def is_so_of_two(thing):
    """Whether it is so of two flights; NoText where land, winds or flights are no texts."""
    land = read_land(thing[1])
    winds = read_winds(land, thing[2])
    one = read_flight(land, thing[3])
    other = read_flight(land, thing[4])
    since, apart = thing[5:7]
    if not is_within_two(land, winds) or not is_whole_from(since, 0, land.day):
        return False
    if not is_whole_from(apart, 1, FARTHEST_APART):
        return False
    if thing[0] == "apart":
        return apart_holds(land, winds, one, other, since, thing[7], apart=apart)
    return near_holds(land, winds, one, other, since, thing[7:], apart=apart)


def is_within_two(land, winds):
    """Whether the land and its winds are within the bounds where two flights are judged."""
    if len(land) > MOST_SQUARES or land.day > LONGEST_DAY:
        return False
    return all([(hx - lx + 1) * (hy - ly + 1) <= MOST_LET for room, (lx, hx, ly, hy) in winds])
