"""A ground room, which lives over a day: flights that come, fly, and rest."""

from windfleet.beats import beat_done, is_over_home, row_at
from windfleet.bounds import APART
from windfleet.errors import (
    Busy, FleetError, Full, NoDeed, NoFlight, NoFlyer, NoNews, NoNumber, NotHome, NotLet, NoTask, NoWeather, NoWinds,
    Over, Undone,
)
from windfleet.fleets import fleet_told
from windfleet.flyers import is_flight, is_flyer
from windfleet.kinds import is_tuple_of, is_whole
from windfleet.news import is_news, news_told
from windfleet.newschecks import by_new_way, fleet_by
from windfleet.tasks import is_task
from windfleet.winds import is_weather, is_winds, wind_by

MOST_IN_AIR = 4


def fly_in(ground, flight):
    """The deed fly."""
    refuse_at_day(ground)
    if not is_flight(ground.land, flight):
        raise NoFlight("this isn't a flight of the land")
    if len(ground.air) == MOST_IN_AIR:
        raise Full("as many are in the air as may be")
    told = told_of(ground, ground.fleet() + (flight,))
    if told[0] != "let":
        raise NotLet(told)
    number = ground.coming
    ground.air = ground.air + ((number, flight),)
    ground.coming = number + 1
    return number


def tell_winds(ground, winds):
    """The deed tell."""
    if not is_winds(ground.land, winds):
        raise NoWinds("these aren't winds of the land")
    ground.gusts = winds
    return is_let(ground)


def send_words(ground, news, heard):
    """The deed send."""
    refuse_at_day(ground)
    fleet = ground.fleet()
    if not is_news(fleet, news) or not are_truths(heard, len(fleet)):
        raise NoNews("these aren't news of the fleet, with what is heard of them")
    fault = fault_of(ground, news)
    if fault is not None:
        raise NotLet(fault)
    for number, way, hears in zip(ground.numbers(), news, heard):
        if hears and way is not None:
            keep(ground, number, by_new_way(ground.flight(number), way))


def are_truths(thing, many):
    """Whether it is a tuple of just so many truths."""
    return is_tuple_of(thing, many) and all([isinstance(part, bool) for part in thing])


def fault_of(ground, news):
    """(heard, told) by which the news are refused, or None."""
    fleet = ground.fleet()
    if not fleet:
        return None
    if is_let(ground):
        told = news_told(ground.land, ground.gusts, fleet, news, ground.now, apart=ground.apart)
        return told[1:] if told[0] == "lost" else None
    # What isn't let by may be mended by words, though not if some are lost: then all heard is what counts.
    heard = tuple([way is not None for way in news])
    told = told_of(ground, fleet_by(fleet, news, heard))
    return (heard, told) if told[0] != "let" else None


def bring_home(ground, number):
    """The deed call_home."""
    refuse_at_day(ground)
    keep(ground, number, by_new_way(ground.flight(number), ()))
    return is_let(ground)


def change_flyer(ground, number, flyer):
    """The deed weaken."""
    refuse_at_day(ground)
    old, (x, y, step, charge), way, task, home = ground.flight(number)
    if not is_flyer(flyer):
        raise NoFlyer("this isn't a flyer")
    keep(ground, number, (flyer, (x, y, step, min(charge, flyer[2])), way, task, home))
    return is_let(ground)


def change_task(ground, number, task):
    """The deed give."""
    refuse_at_day(ground)
    flyer, (x, y, step, charge), way, old, home = ground.flight(number)
    if task is not None and not is_task(ground.land, task):
        raise NoTask("this isn't a task of the land, nor None")
    keep(ground, number, (flyer, (x, y, 0, charge), way, task, home))
    return is_let(ground)


def put_to_rest(ground, number):
    """The deed rest."""
    flight = ground.flight(number)
    if flight[2] != () or not is_over_home(ground.land, flight, flight[1][0], flight[1][1]):
        raise NotHome(number)
    ground.air = tuple([row for row in ground.air if row[0] != number])


def let_a_beat_go(ground, weather):
    """The deed go."""
    refuse_at_day(ground)
    if not is_weather(ground.land, ground.gusts, weather):
        raise NoWeather("this isn't a weather of the winds")
    air, rows, broken = [], [], []
    for number, flight in ground.air:
        flyer, (x, y, step, charge), way, task, home = flight
        wind = wind_by(ground.gusts, weather, x, y, ground.now)
        row = row_at(flight, ground.now, ground.now)
        state, word = beat_done(ground.land, flight, row, ground.now, flight[1], wind)
        if word is None:
            air.append((number, (flyer, state, way[1:], task, home)))
            rows.append((number, (x, y), wind, state[:2]))
        else:
            broken.append((number, word))
            rows.append((number, (x, y), wind, None))
    ground.now += 1
    ground.air = tuple(air)
    ground.past = ground.past + (tuple(rows),)
    return tuple(broken)


def refuse_at_day(ground):
    """Refuses where the day is over."""
    if ground.now == ground.land.day:
        raise Over("the day is over")


def told_of(ground, fleet):
    """What is told of a fleet from now."""
    return fleet_told(ground.land, ground.gusts, fleet, ground.now, apart=ground.apart)


def is_let(ground):
    """Whether the fleet is let by from now."""
    told = ground.word()
    return told is None or told[0] == "let"


def keep(ground, number, flight):
    """The flight with the number is this one from now."""
    ground.air = tuple([(held, flight if held == number else old) for held, old in ground.air])


# By its word: how many things a deed takes that may be done together with others, and what does it.
DEEDS = {
    "fly": (1, fly_in),
    "tell": (1, tell_winds),
    "send": (2, send_words),
    "call_home": (1, bring_home),
    "weaken": (2, change_flyer),
    "give": (2, change_task),
    "rest": (1, put_to_rest),
    "go": (1, let_a_beat_go),
}


def all_or_none(ground, deeds, look):
    """The deed together."""
    refuse_no_deeds(deeds)
    now, gusts, air, coming, past = ground.now, ground.gusts, ground.air, ground.coming, ground.past
    told = None
    ground.doing = True
    try:
        told = one_by_one(ground, deeds, look)
        return told
    finally:
        ground.doing = False
        if told is None:
            ground.now, ground.gusts, ground.air = now, gusts, air
            ground.coming, ground.past = coming, past


def refuse_no_deeds(thing):
    """Refuses what isn't deeds that may be done together."""
    if not isinstance(thing, tuple):
        raise NoDeed(-1)
    for at, deed in enumerate(thing):
        if not is_deed(deed):
            raise NoDeed(at)


def is_deed(thing):
    """Whether it is a word of a deed and as many things, of anything, as that takes."""
    if not isinstance(thing, tuple) or len(thing) == 0 or not isinstance(thing[0], str) or thing[0] not in DEEDS:
        return False
    many, action = DEEDS[thing[0]]
    return len(thing) == many + 1


def one_by_one(ground, deeds, look):
    """What the deeds tell, done one by one."""
    told = []
    for at, (word, *things) in enumerate(deeds):
        many, action = DEEDS[word]
        try:
            told.append(log_deed(ground, True, action, things))
            if look is not None:
                look(ground)
        except (FleetError, KeyError) as refusal:
            raise Undone(at) from refusal
    return tuple(told)


def log_deed(ground, within, action, things):
    """What a deed tells, within deeds done together or not, with its begin and its end in the log."""
    ground.begun += 1
    try:
        if ground.doing and not within:
            raise Busy("deeds are being done together")
        return action(ground, *things)
    finally:
        ground.ended += 1


class Ground:
    """A ground room over a land.

    What it is at is kept in tuples, never changed but put anew: so deeds done together are undone by putting back.
    """

    def __init__(self, land, *, winds=(), apart=APART):
        if not is_winds(land, winds):
            raise NoWinds("these aren't winds of the land")
        self.land = land
        self.apart = apart
        self.gusts = winds
        self.now = 0
        self.air = ()
        self.coming = 0
        self.past = ()
        self.doing = False
        self.begun = 0
        self.ended = 0

    def __len__(self):
        return len(self.air)

    def __eq__(self, other):
        return (
            isinstance(other, Ground)
            and self.land == other.land
            and self.apart == other.apart
            and self.gusts == other.gusts
            and self.now == other.now
            and self.air == other.air
            and self.coming == other.coming
            and self.past == other.past
        )

    def fly(self, flight):
        """A flight comes, flown from now; told is its number."""
        return log_deed(self, False, fly_in, (flight,))

    def tell(self, winds):
        """These are the winds from now; told is whether the fleet is let by then."""
        return log_deed(self, False, tell_winds, (winds,))

    def send(self, news, heard):
        """Those of the fleet that hear a word have the new way from now."""
        return log_deed(self, False, send_words, (news, heard))

    def call_home(self, number):
        """The flight goes home from now; told is whether the fleet is let by then."""
        return log_deed(self, False, bring_home, (number,))

    def weaken(self, number, flyer):
        """The flight has this flyer from now; told is whether the fleet is let by then."""
        return log_deed(self, False, change_flyer, (number, flyer))

    def give(self, number, task):
        """The flight has this task, or None, from now; told is whether the fleet is let by then."""
        return log_deed(self, False, change_task, (number, task))

    def rest(self, number):
        """The flight, come home, is in the air no longer."""
        return log_deed(self, False, put_to_rest, (number,))

    def go(self, weather):
        """A beat goes by; told is (number, word) of each that breaks."""
        return log_deed(self, False, let_a_beat_go, (weather,))

    def together(self, deeds, *, look=None):
        """The deeds are done one by one, all of them or none; told is what they tell."""
        return log_deed(self, False, all_or_none, (deeds, look))

    def beat(self):
        """The beat that it is."""
        return self.now

    def winds(self):
        """The winds as they were told last."""
        return self.gusts

    def numbers(self):
        """The numbers of those in the air, rising."""
        return tuple([number for number, flight in self.air])

    def flight(self, number):
        """The flight with the number, as it is now."""
        for held, flight in self.air:
            if is_whole(number) and held == number:
                return flight
        raise NoNumber(number)

    def fleet(self):
        """The flights in the air, by their numbers."""
        return tuple([flight for number, flight in self.air])

    def word(self):
        """What is told of the fleet from now; None of none."""
        return told_of(self, self.fleet()) if self.air else None

    def story(self):
        """For each beat gone by (number, square ahead, wind, square behind or None) of each that was in the air."""
        return self.past

    def busy(self):
        """Whether deeds are being done together."""
        return self.doing

    def log(self):
        """(begun, ended): how many deeds were begun, and how many came to their end."""
        return self.begun, self.ended
