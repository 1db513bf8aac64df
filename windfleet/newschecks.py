"""What words heard make of a fleet, and the checkers of what is told of its news."""

from windfleet.bounds import APART
from windfleet.fleetchecks import breach_holds, have_pads_room, pads_used, twos
from windfleet.kinds import is_tuple_of
from windfleet.lets import let_holds
from windfleet.nears import apart_holds


def by_new_way(flight, way):
    """The flight with this way for its own."""
    flyer, state, old, task, home = flight
    return flyer, state, way, task, home


def as_may_be(fleet, news):
    """For each flight a tuple of it as it is and, where there is a word, as it is by the new way."""
    return [(flight,) if way is None else (flight, by_new_way(flight, way)) for flight, way in zip(fleet, news)]


def fleet_by(fleet, news, heard):
    """The fleet where just those words are heard."""
    return tuple([by_new_way(flight, way) if hears else flight for flight, way, hears in zip(fleet, news, heard)])


def pads_used_by_either(land, flights, since, papers):
    """The pads that a flight uses by one of its papers, as a dict's keys."""
    used = {}
    for flight, paper in zip(flights, papers):
        used.update(pads_used(land, flight, since, paper))
    return used


def news_hold(land, winds, fleet, news, since, thing, *, apart=APART):
    """Whether it is ("let", singles, pairs) by which the fleet is let by whichever words are heard."""
    if not is_tuple_of(thing, 3) or thing[0] != "let":
        return False
    word, singles, pairs = thing
    either = as_may_be(fleet, news)
    if not is_tuple_of(singles, len(fleet)) or not is_tuple_of(pairs, len(twos(len(fleet)))):
        return False
    for flights, papers in zip(either, singles):
        if not do_let(land, winds, flights, since, papers):
            return False
    for (j, k), rows in zip(twos(len(fleet)), pairs):
        if not do_part(land, winds, either[j], either[k], since, rows, apart):
            return False
    uses = [pads_used_by_either(land, flights, since, papers) for flights, papers in zip(either, singles)]
    return have_pads_room(land, uses)


def do_let(land, winds, flights, since, thing):
    """Whether it is papers that let by each of the flights."""
    if not is_tuple_of(thing, len(flights)):
        return False
    return all([let_holds(land, winds, flight, since, paper) for flight, paper in zip(flights, thing)])


def do_part(land, winds, ones, others, since, thing, apart):
    """Whether it is rows, for each of the ones, of papers by which it is apart from each of the others."""
    if not is_tuple_of(thing, len(ones)) or not all([is_tuple_of(row, len(others)) for row in thing]):
        return False
    for one, row in zip(ones, thing):
        for other, paper in zip(others, row):
            if not apart_holds(land, winds, one, other, since, paper, apart=apart):
                return False
    return True


def lost_holds(land, winds, fleet, news, since, thing, *, apart=APART):
    """Whether it is ("lost", heard, told), told being so of the fleet where just those words are heard."""
    if not is_tuple_of(thing, 3) or thing[0] != "lost" or not is_hearing(news, thing[1]):
        return False
    return breach_holds(land, winds, fleet_by(fleet, news, thing[1]), since, thing[2], apart=apart)


def is_hearing(news, thing):
    """Whether it is a truth for each of the news, False where there is no word."""
    if not is_tuple_of(thing, len(news)) or not all([isinstance(hears, bool) for hears in thing]):
        return False
    return all([way is not None or not hears for way, hears in zip(news, thing)])
