"""News of a fleet, and whether it is let by whichever words are heard."""

from windfleet.bounds import APART
from windfleet.fleetchecks import pads_used, twos
from windfleet.fleets import fleet_told
from windfleet.flyers import is_way
from windfleet.judging import judged
from windfleet.kinds import is_tuple_of
from windfleet.newschecks import as_may_be, fleet_by
from windfleet.pairs import paired


def is_news(fleet, thing):
    """Whether it is news of the fleet."""
    return is_tuple_of(thing, len(fleet)) and all([way is None or is_way(way) for way in thing])


def news_told(land, winds, fleet, news, since, *, apart=APART):
    """("let", singles, pairs), or ("lost", heard, told)."""
    either = as_may_be(fleet, news)
    pairs = None
    singles, fault = papers_of_each(land, winds, either, since)
    if fault is None:
        pairs, fault = papers_of_twos(land, winds, either, since, apart)
    if fault is None:
        fault = crowd_of(land, either, since, singles)
    if fault is None:
        return "let", singles, pairs
    heard = tuple([fault.get(k, 0) == 1 for k in range(len(fleet))])
    return "lost", heard, fleet_told(land, winds, fleet_by(fleet, news, heard), since, apart=apart)


def papers_of_each(land, winds, either, since):
    """(papers of each flight as it may be, None), or (None, fault): by the number of a flight how it isn't let by.

    Of a fault 0 means the flight as it is, 1 by its new way.
    """
    singles = []
    for k, flights in enumerate(either):
        papers = []
        for at, flight in enumerate(flights):
            told = judged(land, winds, flight, since)
            if told[0] == "breaks":
                return None, {k: at}
            papers.append(told[1])
        singles.append(tuple(papers))
    return tuple(singles), None


def papers_of_twos(land, winds, either, since, apart):
    """(rows of papers of each two, None), or (None, fault): by the numbers of two flights how they aren't apart."""
    pairs = []
    for j, k in twos(len(either)):
        rows, fault = papers_of_two(land, winds, either, j, k, since, apart)
        if fault is not None:
            return None, fault
        pairs.append(rows)
    return tuple(pairs), None


def papers_of_two(land, winds, either, j, k, since, apart):
    """(rows of papers of these two, None), or (None, fault)."""
    rows = []
    for at, one in enumerate(either[j]):
        papers = []
        for by, other in enumerate(either[k]):
            told = paired(land, winds, one, other, since, apart=apart)
            if told[0] == "near":
                return None, {j: at, k: by}
            papers.append(told[1])
        rows.append(tuple(papers))
    return tuple(rows), None


def crowd_of(land, either, since, singles):
    """A fault: by the numbers of flights how they use a pad, more of them than it has room for; or None."""
    for number, pad in enumerate(land.pads):
        crowd = {}
        for k, flights in enumerate(either):
            for at, flight in enumerate(flights):
                if number in pads_used(land, flight, since, singles[k][at]):
                    crowd.setdefault(k, at)
        if len(crowd) > pad[4]:
            return crowd
    return None
