import copy
import random
import unittest

from tests.ground_again import GroundAgain, Refusal
from tests.helping import ANYTHING, a_fair_flight, a_fair_land, deep, fair_winds, spoiled, the_greatest_fleet, told_so, unchanged
from windfleet import errors
from windfleet.bounds import APART
from windfleet.fleetchecks import breach_holds, fleet_holds
from windfleet.fleets import fleet_told
from windfleet.grounds import Ground
from windfleet.lands import Land
from windfleet.newschecks import lost_holds
from windfleet.winds import winds_at

STAND = ("stand",)
FLYER = (2, 9, 50, 3)
PADS = ((0, 0, 0, 3, 4), (5, 0, 5, 3, 2), (3, 0, 3, 0, 1))
LAND = Land(6, 4, day=6, barred=((4, 3, 4, 3, 0, 6),), pads=PADS)
# Two squares from home a wind may blow to the east.
EAST = (((2, 0, 2, 3, 0, 6), (0, 1, 0, 0)),)
FIELDS = {"NotLet": "told", "NoDeed": "at", "Undone": "at", "NotHome": "number", "NoNumber": "number"}


def a_flight(x, y, *way, home=0, task=None, step=0, charge=50):
    return FLYER, (x, y, step, charge), way, task, home


def a_ground(*flights, land=LAND, **named):
    ground = Ground(land, **named)
    for flight in flights:
        ground.fly(flight)
    return ground


def at_day(*flights, land=LAND, **named):
    ground = a_ground(*flights, land=land, **named)
    while ground.beat() < land.day:
        ground.go(())
    return ground


def shown(ground):
    """All that is told of a ground room but its log."""
    return (
        ground.beat(), ground.winds(), ground.numbers(), ground.fleet(), ground.word(), ground.story(), len(ground),
        tuple(ground.flight(number) for number in ground.numbers()), ground.busy(),
    )


def name_and_field(refusal):
    name = type(refusal).__name__
    return name, getattr(refusal, FIELDS[name]) if name in FIELDS else None


class Asking(unittest.TestCase):
    def refused(self, name, told, ground, deed, *handed, **named):
        """The deed is refused so, and changes nothing but the log, twice; what is handed in isn't changed."""
        before, twin, handed_before = shown(ground), copy.deepcopy(ground), copy.deepcopy((handed, named))
        for again in range(2):
            begun, ended = ground.log()
            with self.assertRaises((errors.FleetError, KeyError), msg=(deed, handed)) as caught:
                getattr(ground, deed)(*handed, **named)
            self.assertEqual((name, repr(told)), (type(caught.exception).__name__, repr(name_and_field(caught.exception)[1])))
            self.assertEqual(begun + 1, ground.log()[0])
            self.assertEqual(ended + 1, ground.log()[1])
            told_so(self, deed, before, shown(ground))
            self.assertEqual(twin, ground)
            self.assertEqual(handed_before, (handed, named))
        return caught.exception

    def done(self, wanted, ground, deed, *handed):
        begun, ended = ground.log()
        before = copy.deepcopy(handed)
        told_so(self, deed, wanted, getattr(ground, deed)(*handed))
        self.assertEqual((begun + 1, ended + 1), ground.log())
        self.assertEqual(before, handed)


class New(Asking):
    def test_a_new_one(self):
        ground = Ground(LAND)
        told_so(self, "new", (0, (), (), (), None, (), 0, (), False), shown(ground))
        told_so(self, "log", (0, 0), ground.log())

    def test_with_winds_and_apart(self):
        ground = Ground(apart=2, winds=EAST, land=LAND)
        self.assertEqual(EAST, ground.winds())
        self.assertEqual(Ground(LAND, winds=EAST), Ground(LAND, winds=EAST, apart=APART))
        near = (a_flight(1, 1), a_flight(2, 2))
        self.assertEqual(2, len(a_ground(*near)))
        ground = a_ground(near[0], apart=2)
        self.refused("NotLet", ("pair", 0, 1, (), ()), ground, "fly", near[1])

    def test_no_winds(self):
        wrongs = [thing for thing in ANYTHING if repr(thing) != "()"]
        for thing in (*wrongs, deep(30), list(EAST), EAST * 9, *spoiled(EAST, [()])):
            if isinstance(thing, tuple) and repr(thing) in ("()", repr(EAST), repr(EAST * 2)):
                continue
            with self.assertRaises(errors.NoWinds, msg=thing):
                Ground(LAND, winds=thing)

    def test_land_and_apart_are_kept(self):
        land = copy.deepcopy(LAND)
        a_ground(a_flight(0, 0), land=land).go(())
        self.assertEqual(LAND, land)


class Fly(Asking):
    def test_numbers(self):
        ground = Ground(LAND)
        for number in range(3):
            self.done(number, ground, "fly", a_flight(0, number, STAND))
        self.assertEqual((0, 1, 2), ground.numbers())
        told_so(self, "fleet", tuple(a_flight(0, number, STAND) for number in range(3)), ground.fleet())
        self.assertEqual(3, len(ground))
        self.assertEqual(a_flight(0, 1, STAND), ground.flight(1))

    def test_numbers_go_on_behind_those_that_rest_and_break(self):
        ground = a_ground(a_flight(0, 0), a_flight(0, 1))
        ground.rest(1)
        self.done(2, ground, "fly", a_flight(0, 2))
        ground.rest(0)
        ground.rest(2)
        self.done(3, ground, "fly", a_flight(0, 2))
        self.assertEqual((3,), ground.numbers())

    def test_numbers_go_on_behind_refused_ones(self):
        ground = Ground(LAND)
        self.refused("NoFlight", None, ground, "fly", None)
        self.refused("NotLet", ("flight", 0, 0, ()), ground, "fly", a_flight(4, 3))
        self.done(0, ground, "fly", a_flight(0, 0))

    def test_flown_from_now(self):
        # By its way from now it comes home in time, or late.
        ground = Ground(LAND)
        out = a_flight(0, 0, ("aim", 2, 0), ("go", 0, 0), ("go", 0, 0))
        for beat in range(2):
            self.assertEqual("let", fleet_told(LAND, (), (out,), beat)[0])
            ground.go(())
        self.assertEqual(0, ground.fly(out))
        self.assertEqual(out, ground.flight(0))
        ground = Ground(LAND)
        for beat in range(5):
            ground.go(())
        away = a_flight(4, 0)
        told = fleet_told(LAND, (), (away,), 5)
        self.assertEqual("flight", told[0])
        self.refused("NotLet", told, ground, "fly", away)

    def test_no_flight(self):
        ground = a_ground(a_flight(0, 0))
        for thing in ANYTHING + (deep(30), (a_flight(0, 0),), list(a_flight(0, 0)), a_flight(6, 0), a_flight(0, 0, home=3)):
            self.refused("NoFlight", None, ground, "fly", thing)
        looks = a_flight(0, 0, ("go", 1, 0), task=("look", (1, 0, 1, 0), 1, 3))
        for thing in spoiled(looks, [(2,)])[::7]:
            if thing != (*looks[:3], None, 0):
                self.refused("NoFlight", None, ground, "fly", thing)

    def test_four_in_the_air(self):
        ground = a_ground(*[a_flight(0, y) for y in range(4)])
        self.assertEqual(4, len(ground))
        self.refused("Full", None, ground, "fly", a_flight(5, 0, home=1))
        # The one told first goes first.
        self.refused("NoFlight", None, ground, "fly", None)
        self.refused("Full", None, ground, "fly", a_flight(4, 3))
        ground.rest(2)
        self.done(4, ground, "fly", a_flight(5, 0, home=1))

    def test_not_let_with_what_is_told(self):
        ground = a_ground(a_flight(2, 1))
        late = a_flight(5, 0, STAND, STAND, STAND, STAND, STAND)
        for flight, word in ((a_flight(4, 3), "flight"), (late, "flight"), (a_flight(2, 1), "pair")):
            told = fleet_told(LAND, (), (a_flight(2, 1), flight), 0)
            self.assertEqual(word, told[0])
            refusal = self.refused("NotLet", told, ground, "fly", flight)
            self.assertIs(True, breach_holds(LAND, (), (a_flight(2, 1), flight), 0, refusal.told))
        ground = a_ground(a_flight(3, 0, home=2))
        self.refused("NotLet", ("pad", 2, ((0, ()), (1, ()))), ground, "fly", a_flight(3, 0, home=2))

    def test_not_let_where_those_in_the_air_are_not(self):
        ground = a_ground(a_flight(4, 1))
        self.assertIs(False, ground.tell((((0, 0, 5, 3, 0, 6), (0, 2, 0, 0)),)))
        told = fleet_told(LAND, ground.winds(), (a_flight(4, 1), a_flight(0, 3)), 0)
        self.assertEqual(("flight", 0), told[:2])
        self.refused("NotLet", told, ground, "fly", a_flight(0, 3))

    def test_over(self):
        ground = at_day()
        self.refused("Over", None, ground, "fly", a_flight(0, 0))
        self.refused("Over", None, ground, "fly", None)


class Tell(Asking):
    def test_winds_by_which_the_fleet_is_not_let_by_and_back(self):
        ground = a_ground(a_flight(4, 1))
        storm = (((0, 0, 5, 3, 0, 6), (0, 2, 0, 0)),)
        self.done(False, ground, "tell", storm)
        self.assertEqual(storm, ground.winds())
        self.assertEqual("flight", ground.word()[0])
        self.done(True, ground, "tell", EAST)
        self.assertEqual("let", ground.word()[0])
        self.done(True, ground, "tell", ())

    def test_true_of_none(self):
        self.done(True, Ground(LAND), "tell", (((0, 0, 5, 3, 0, 6), (2, 2, 2, 2)),))

    def test_no_winds(self):
        ground = a_ground(a_flight(0, 0), winds=EAST)
        for thing in ANYTHING + (deep(30), list(EAST), EAST * 9, EAST[0], (((0, 0, 6, 3, 0, 6), (0, 0, 0, 0)),)):
            if repr(thing) != "()":
                self.refused("NoWinds", None, ground, "tell", thing)

    def test_at_day(self):
        ground = at_day(a_flight(0, 0))
        self.done(True, ground, "tell", EAST)
        self.refused("NoWinds", None, ground, "tell", None)

    def test_at_day_of_one_that_is_late(self):
        ground = a_ground(a_flight(4, 1))
        ground.tell((((0, 0, 5, 3, 0, 6), (0, 1, 0, 0)),))
        for beat in range(6):
            ground.go(((*((4, 1, 0), (1, 0)),),) if beat == 0 else ())
        self.done(True, ground, "tell", ())
        ground = a_ground(a_flight(4, 1))
        ground.tell((((0, 0, 4, 3, 0, 6), (2, 2, 0, 0)),))
        for beat in range(6):
            self.assertEqual((), ground.go(()))
        self.assertEqual((4, 1), ground.flight(0)[1][:2])
        self.done(False, ground, "tell", ())


class Send(Asking):
    FLEET = (a_flight(0, 0, STAND), a_flight(0, 2, STAND))

    def test_words_heard_and_lost(self):
        out = (("go", 1, 0),)
        for heard in ((True, True), (True, False), (False, True), (False, False)):
            ground = a_ground(*self.FLEET)
            self.done(None, ground, "send", (out, out), heard)
            self.assertEqual(tuple(out if hears else (STAND,) for hears in heard), tuple(made[2] for made in ground.fleet()))
            self.assertEqual((0, 1), ground.numbers())

    def test_no_word(self):
        ground = a_ground(*self.FLEET)
        for truth in (True, False):
            self.done(None, ground, "send", (None, ()), (truth, False))
            self.assertEqual(self.FLEET, ground.fleet())
        self.done(None, ground, "send", (None, ()), (True, True))
        self.assertEqual((self.FLEET[0], a_flight(0, 2)), ground.fleet())

    def test_of_none(self):
        ground = Ground(LAND)
        self.done(None, ground, "send", (), ())
        self.refused("NoNews", None, ground, "send", (None,), (True,))
        self.refused("NoNews", None, ground, "send", (), (True,))
        self.refused("NoNews", None, ground, "send", None, ())

    def test_no_news(self):
        ground = a_ground(*self.FLEET)
        for thing in ANYTHING + (deep(30), [None, None], (None,), (None, None, None), (None, STAND), (None, [STAND])):
            if repr(thing) not in ("(None, None)", "((), ())"):
                self.refused("NoNews", None, ground, "send", thing, (True, True))
        for thing in ANYTHING + (deep(30), [True, True], (True,), (True, False, True), (1, 0), (True, None), "TT", (True, 1)):
            self.refused("NoNews", None, ground, "send", (None, None), thing)

    def test_not_let_whichever_words_are_heard(self):
        # Each by itself may go there, both may not.
        ground = a_ground(a_flight(1, 0), a_flight(1, 2))
        news = ((("go", 0, 1), ("go", 0, 0)), (("go", 0, -1), ("go", 0, 0)))
        for heard in ((True, True), (True, False), (False, False)):
            refusal = self.refused("NotLet", ((True, True), ("pair", 0, 1, ((0, 0),), ((0, 0),))), ground, "send", news, heard)
            self.assertIs(True, lost_holds(LAND, (), ground.fleet(), news, 0, ("lost", *refusal.told)))
        ground.send((news[0], None), (True, False))

    def test_words_all_of_which_must_be_heard(self):
        # Let by with both words heard, but not with the second one's alone.
        ground = a_ground(a_flight(1, 1, ("go", 0, 0)), a_flight(1, 2, ("go", 0, 0)))
        news = ((("aim", 1, 0),), (("aim", 1, 1),))
        fleet = tuple((*made[:2], way, *made[3:]) for made, way in zip(ground.fleet(), news))
        self.assertEqual("let", fleet_told(LAND, (), fleet, 0)[0])
        refusal = self.refused_so(ground, news, (True, True))
        self.assertEqual((False, True), refusal.told[0])

    def refused_so(self, ground, news, heard):
        with self.assertRaises(errors.NotLet) as caught:
            ground.send(news, heard)
        told = caught.exception.told
        self.assertIs(True, lost_holds(LAND, ground.winds(), ground.fleet(), news, ground.beat(), ("lost", *told)))
        return self.refused("NotLet", told, ground, "send", news, heard)

    def test_a_fleet_that_is_not_let_by_and_with_all_words_heard_is(self):
        winds = (((4, 0, 4, 3, 1, 1), (2, 2, 0, 0)),)
        for heard in (True, False):
            ground = a_ground(a_flight(3, 1, ("go", 1, 0), ("go", 0, 0)), a_flight(0, 0))
            self.assertIs(False, ground.tell(winds))
            # Lost it isn't let by, as ahead; heard it is.
            self.done(None, ground, "send", ((), None), (heard, True))
            self.assertIs(heard, ground.word()[0] == "let")
            self.assertEqual(() if heard else (("go", 1, 0), ("go", 0, 0)), ground.flight(0)[2])

    def test_a_fleet_that_is_not_let_by_and_with_all_words_heard_is_not_either(self):
        winds = (((4, 0, 4, 3, 1, 1), (2, 2, 0, 0)),)
        ground = a_ground(a_flight(3, 1, ("go", 1, 0), ("go", 0, 0)), a_flight(0, 0), a_flight(0, 1, STAND))
        ground.tell(winds)
        news = (None, (("go", 1, 0),), ())
        told = fleet_told(LAND, winds, (ground.flight(0), a_flight(0, 0, ("go", 1, 0)), a_flight(0, 1)), 0)
        self.assertEqual("flight", told[0])
        for heard in ((True, True, True), (False, False, False), (False, True, False)):
            self.refused("NotLet", ((False, True, True), told), ground, "send", news, heard)
        # The first one's word doesn't mend it either.
        news = ((("go", 1, 0), ("go", 1, 0)), None, None)
        told = fleet_told(LAND, winds, (a_flight(3, 1, *news[0]), a_flight(0, 0), a_flight(0, 1, STAND)), 0)
        self.refused("NotLet", ((True, False, False), told), ground, "send", news, (False, False, False))

    def test_no_news_ahead_of_not_let_and_over_ahead_of_both(self):
        ground = a_ground(a_flight(1, 0), a_flight(1, 2))
        news = ((("go", 0, 1), ("go", 0, 0)), (("go", 0, -1), ("go", 0, 0)))
        self.refused("NoNews", None, ground, "send", news, (True,))
        ground = at_day(a_flight(0, 0))
        self.refused("Over", None, ground, "send", (None,), (True,))
        self.refused("Over", None, ground, "send", None, None)


class CallHome(Asking):
    def test_way_of_none(self):
        ground = a_ground(a_flight(0, 0, ("go", 1, 0), ("go", 1, 0)), a_flight(0, 1, STAND))
        ground.go(())
        self.done(True, ground, "call_home", 0)
        self.assertEqual((a_flight(1, 0, charge=48), a_flight(0, 1)), ground.fleet())
        self.done(True, ground, "call_home", 0)

    def test_what_is_broken_must_come_home(self):
        winds = (((4, 0, 4, 3, 1, 1), (2, 2, 0, 0)),)
        ground = a_ground(a_flight(3, 1, ("go", 1, 0), ("go", 0, 0)), a_flight(2, 1, ("go", 0, 0)))
        ground.tell((*winds, ((2, 1, 2, 1, 0, 0), (0, 2, 0, 2))))
        self.assertEqual(("flight", 0), ground.word()[:2])
        self.done(False, ground, "call_home", 0)
        self.assertEqual((), ground.flight(0)[2])
        self.assertNotEqual("let", ground.word()[0])

    def test_no_number_of_anything(self):
        ground = a_ground(a_flight(0, 0), a_flight(0, 1))
        ground.rest(0)
        for thing in ANYTHING + (deep(30), 2, -2, "1", (1,), [1]):
            if repr(thing) != "1":
                for deed, more in (("call_home", ()), ("rest", ()), ("weaken", (FLYER,)), ("give", (None,))):
                    self.refused("NoNumber", thing, ground, deed, thing, *more)
                with self.assertRaises(errors.NoNumber) as caught:
                    ground.flight(thing)
                self.assertEqual(repr(thing), repr(caught.exception.number))

    def test_over(self):
        ground = at_day(a_flight(0, 0))
        self.refused("Over", None, ground, "call_home", 0)
        self.refused("Over", None, ground, "call_home", None)


class Weaken(Asking):
    def test_charge_no_more_than_full(self):
        ground = a_ground(a_flight(0, 0, STAND), a_flight(0, 1, charge=20))
        self.done(True, ground, "weaken", 0, (1, 9, 30, 4))
        self.assertEqual(((1, 9, 30, 4), (0, 0, 0, 30), (STAND,), None, 0), ground.flight(0))
        self.done(True, ground, "weaken", 1, (1, 9, 30, 4))
        self.assertEqual(((1, 9, 30, 4), (0, 1, 0, 20), (), None, 0), ground.flight(1))
        self.done(True, ground, "weaken", 1, (2, 9, 99, 4))
        self.assertEqual((0, 1, 0, 20), ground.flight(1)[1])
        self.done(True, ground, "weaken", 1, (2, 9, 20, 4))
        self.assertEqual((0, 1, 0, 20), ground.flight(1)[1])

    def test_told_is_whether_the_fleet_is_let_by(self):
        ground = a_ground(a_flight(2, 1), a_flight(0, 0))
        self.done(False, ground, "weaken", 0, (0, 9, 50, 3))
        self.assertEqual(("flight", 0), ground.word()[:2])
        self.done(False, ground, "weaken", 1, (1, 9, 50, 3))
        self.done(True, ground, "weaken", 0, FLYER)

    def test_no_flyer(self):
        ground = a_ground(a_flight(0, 0))
        for thing in ANYTHING + (deep(30), (3, 9, 50, 3), (2, 10, 50, 3), (2, 9, 0, 3), (2, 9, 50, 0), list(FLYER), FLYER + (1,)):
            self.refused("NoFlyer", None, ground, "weaken", 0, thing)
        for thing in spoiled(FLYER):
            self.refused("NoFlyer", None, ground, "weaken", 0, thing)
        # The number first.
        self.refused("NoNumber", 1, ground, "weaken", 1, None)

    def test_over(self):
        ground = at_day(a_flight(0, 0))
        self.refused("Over", None, ground, "weaken", 0, FLYER)
        self.refused("Over", None, ground, "weaken", 7, None)


class Give(Asking):
    LOOK = ("look", (1, 0, 1, 0), 1, 1)

    def test_step_none(self):
        ground = a_ground(a_flight(0, 0, ("go", 1, 0), task=self.LOOK))
        ground.go(())
        self.assertEqual((1, 0, 1, 48), ground.flight(0)[1])
        over = ("over", (0, 0, 5, 3), 3, 0, 6)
        self.done(True, ground, "give", 0, over)
        self.assertEqual((FLYER, (1, 0, 0, 48), (), over, 0), ground.flight(0))
        ground.go(())
        self.assertEqual(1, ground.flight(0)[1][2])
        self.done(True, ground, "give", 0, over)
        self.assertEqual(0, ground.flight(0)[1][2])
        ground.go(())
        self.done(True, ground, "give", 0, None)
        self.assertEqual((0, None), (ground.flight(0)[1][2], ground.flight(0)[3]))

    def test_told_is_whether_the_fleet_is_let_by(self):
        ground = a_ground(a_flight(5, 0, ("go", 0, 0), ("go", 0, 0), charge=12))
        heavy = ("bring", (5, 0, 5, 0), (2, 0, 2, 0), 9, 0, 6)
        self.done(False, ground, "give", 0, heavy)
        self.assertEqual(heavy, ground.flight(0)[3])
        self.done(True, ground, "give", 0, None)

    def test_no_task(self):
        ground = a_ground(a_flight(0, 0))
        for thing in ANYTHING + (deep(30), list(self.LOOK), ("look", (6, 0, 6, 0), 1, 1), ("look", (1, 0, 1, 0), 1, 7)):
            if thing is not None:
                self.refused("NoTask", None, ground, "give", 0, thing)
        for thing in spoiled(self.LOOK):
            if thing is not None:
                self.refused("NoTask", None, ground, "give", 0, thing)
        self.refused("NoNumber", 1, ground, "give", 1, 5)

    def test_over(self):
        ground = at_day(a_flight(0, 0))
        self.refused("Over", None, ground, "give", 0, None)
        self.refused("Over", None, ground, "give", None, 5)


class Rest(Asking):
    def test_in_the_air_no_longer(self):
        ground = a_ground(a_flight(0, 0), a_flight(0, 1), a_flight(5, 0, home=1))
        self.done(None, ground, "rest", 1)
        self.assertEqual(((0, 2), 2), (ground.numbers(), len(ground)))
        self.done(None, ground, "rest", 2)
        self.done(None, ground, "rest", 0)
        self.assertEqual(((), None), (ground.numbers(), ground.word()))

    def test_not_home(self):
        ground = a_ground(a_flight(0, 0, STAND), a_flight(2, 1), a_flight(5, 0), a_flight(3, 0, home=2))
        self.refused("NotHome", 0, ground, "rest", 0)
        self.refused("NotHome", 1, ground, "rest", 1)
        # On a pad, but not its home.
        self.refused("NotHome", 2, ground, "rest", 2)
        self.done(None, ground, "rest", 3)
        ground.go(())
        self.done(None, ground, "rest", 0)
        self.done(None, ground, "rest", 1)
        self.refused("NoNumber", 1, ground, "rest", 1)

    def test_a_way_of_home_is_not_none(self):
        ground = a_ground(a_flight(0, 0, ("home",)))
        self.refused("NotHome", 0, ground, "rest", 0)
        ground.call_home(0)
        self.done(None, ground, "rest", 0)

    def test_at_day(self):
        ground = at_day(a_flight(0, 0), a_flight(0, 1))
        self.done(None, ground, "rest", 0)
        self.refused("NoNumber", 0, ground, "rest", 0)


class Go(Asking):
    def test_a_beat(self):
        ground = a_ground(a_flight(0, 0, ("go", 1, 0), ("go", 1, 0)), a_flight(0, 3, charge=40))
        self.done((), ground, "go", ())
        told_so(self, "fleet", (a_flight(1, 0, ("go", 1, 0), charge=48), a_flight(0, 3, charge=43)), ground.fleet())
        told_so(self, "story", (((0, (0, 0), (0, 0), (1, 0)), (1, (0, 3), (0, 0), (0, 3))),), ground.story())
        self.assertEqual(1, ground.beat())
        for beat in range(4):
            self.done((), ground, "go", ())
        # From (2, 0) home by two squares and one, to the middle of the pad, for a charge of 4; two beats of rest.
        self.assertEqual(a_flight(0, 1, charge=48), ground.flight(0))

    def test_by_the_weather(self):
        ground = a_ground(a_flight(2, 1, ("go", 0, 0)), a_flight(2, 3), winds=EAST)
        weather = (((2, 1, 0), (1, 0)), ((2, 1, 1), (0, 0)), ((2, 3, 0), (1, 0)))
        self.done((), ground, "go", weather)
        told_so(self, "story", (((0, (2, 1), (1, 0), (3, 1)), (1, (2, 3), (1, 0), (1, 1))),), ground.story())
        # Where it tells none the least blows.
        ground = a_ground(a_flight(3, 1, ("go", 0, 0)), winds=(((3, 1, 3, 1, 0, 0), (-1, 1, 0, 1)),))
        ground.go((((3, 1, 1), (0, 0)),))
        self.assertEqual((((0, (3, 1), (-1, 0), (2, 1)),),), ground.story())

    def test_no_weather(self):
        ground = a_ground(a_flight(2, 1), winds=EAST)
        for thing in ANYTHING + (
            deep(30), (((2, 1, 0), (2, 0)),), (((2, 1, 6), (0, 0)),), (((6, 1, 0), (0, 0)),), [((2, 1, 0), (1, 0))],
            (((2, 1, 0), (1, 0)), ((1, 1, 0), (1, 0))), (((2, 1, 0), (1, 0)),) * 2, (((2, 1, 0), (True, 0)),),
        ):
            if repr(thing) != "()":
                self.refused("NoWeather", None, ground, "go", thing)
        # By the winds as they are now.
        ground.tell(())
        self.refused("NoWeather", None, ground, "go", (((2, 1, 0), (1, 0)),))
        self.done((), ground, "go", (((2, 1, 0), (0, 0)),))

    def test_flights_that_break(self):
        ground = a_ground(a_flight(0, 0), a_flight(2, 3, ("go", 0, 0)), a_flight(4, 0, home=1), a_flight(4, 2))
        ground.tell((((4, 0, 4, 0, 0, 6), (0, 0, -2, 0)), ((4, 2, 4, 2, 0, 6), (0, 2, 0, 2))))
        self.done(((2, "out"), (3, "barred")), ground, "go", (((4, 2, 0), (2, 2)),))
        self.assertEqual(((0, 1), 2), (ground.numbers(), len(ground)))
        told_so(self, "story", ((2, (4, 0), (0, -2), None), (3, (4, 2), (2, 2), None)), ground.story()[0][2:])
        with self.assertRaises(errors.NoNumber):
            ground.flight(2)
        self.done(4, ground, "fly", a_flight(5, 0, home=1))

    def test_words_of_all_sorts(self):
        heights = ((0, 0, 0), (0, 9, 0), (0, 0, 0))
        land = Land(3, 3, day=6, heights=heights, people=((2, 2, 2, 2, 1, 6),), pads=((0, 0, 0, 0, 4), (0, 2, 0, 2, 4)))
        for wind, word in (((0, 0), None), ((1, 1), "high"), ((2, 0), None), ((0, -1), "out"), ((2, 1), "people")):
            ground = a_ground(((2, 5, 9, 1), (1, 0, 0, 9), (), None, 0), land=land)
            self.assertIs(word is None, ground.tell((((1, 0, 1, 0, 0, 0), (wind[0], wind[0], wind[1], wind[1])),)))
            self.done(((0, word),) if word else (), ground, "go", ())
        # Weakened it can't pay the way home; led elsewhere it stands off every pad.
        ground = a_ground(((2, 5, 3, 1), (1, 0, 0, 3), (), None, 0), land=land)
        self.assertIs(False, ground.weaken(0, (2, 5, 1, 1)))
        self.done(((0, "empty"),), ground, "go", ())
        ground = a_ground(((2, 5, 9, 1), (1, 0, 0, 9), (("go", -1, 0), STAND), None, 0), land=land)
        ground.tell((((1, 0, 1, 0, 0, 0), (1, 1, 0, 0)),))
        self.done((), ground, "go", ())
        self.done(((0, "nopad"),), ground, "go", ())

    def test_one_made_lower_than_its_square_goes_on(self):
        # Its square is too high for it from now: it isn't let by, but breaks where a beat leads it to one that hurts.
        land = Land(3, 1, day=3, heights=((0, 5, 5),), pads=((0, 0, 0, 0, 1),))
        ground = a_ground(((1, 9, 9, 1), (2, 0, 0, 9), (), None, 0), land=land)
        self.assertIs(False, ground.weaken(0, (2, 4, 9, 1)))
        self.assertEqual(("flight", 0, 0, ()), ground.word())
        self.done((), ground, "go", ())
        self.assertEqual((0, 0, 0, 6), ground.flight(0)[1])

    def test_late_ones_stay(self):
        ground = a_ground(a_flight(4, 1))
        ground.tell((((0, 0, 4, 3, 0, 6), (2, 2, 0, 0)),))
        for beat in range(6):
            self.done((), ground, "go", ())
        self.assertEqual(((0,), 6), (ground.numbers(), ground.beat()))
        self.assertEqual(("flight", 0, 6, ()), ground.word())
        self.refused("NotHome", 0, ground, "rest", 0)

    def test_over(self):
        ground = at_day(a_flight(0, 0))
        self.refused("Over", None, ground, "go", ())
        self.refused("Over", None, ground, "go", None)
        self.assertEqual(6, len(ground.story()))

    def test_without_flights(self):
        ground = Ground(LAND)
        self.done((), ground, "go", ())
        self.assertEqual(((),), ground.story())


class Told(Asking):
    def test_word_by_what_is_in_the_air(self):
        ground = a_ground(a_flight(0, 0), a_flight(2, 1), winds=EAST)
        self.assertIs(True, fleet_holds(LAND, EAST, ground.fleet(), 0, ground.word()))
        ground.go(())
        self.assertIs(True, fleet_holds(LAND, EAST, ground.fleet(), 1, ground.word()))
        ground.rest(0)
        self.assertEqual(fleet_told(LAND, EAST, ground.fleet(), 1), ground.word())

    def test_word_by_places_in_the_fleet(self):
        ground = a_ground(a_flight(0, 0), a_flight(0, 1), a_flight(2, 1), a_flight(4, 1))
        ground.rest(0)
        ground.rest(1)
        ground.tell((((4, 0, 4, 3, 0, 6), (2, 2, 0, 0)),))
        self.assertEqual(("flight", 1), ground.word()[:2])
        self.assertEqual((2, 3), ground.numbers())

    def test_apart_is_handed_on(self):
        for apart, let in ((1, True), (2, True), (3, False)):
            ground = a_ground(a_flight(1, 0), apart=apart)
            told = fleet_told(LAND, (), (a_flight(1, 0), a_flight(2, 2)), 0, apart=apart)
            self.assertIs(let, told[0] == "let")
            if let:
                ground.fly(a_flight(2, 2))
                self.assertEqual(told, ground.word())
                ground.send(((), None), (True, True))
            else:
                self.refused("NotLet", told, ground, "fly", a_flight(2, 2))

    def test_asking_again_tells_the_same(self):
        ground = a_ground(a_flight(0, 0, ("go", 1, 0)), a_flight(2, 1), winds=EAST)
        ground.go(())
        for ask in (ground.beat, ground.winds, ground.numbers, ground.fleet, ground.word, ground.story, ground.busy, ground.log):
            unchanged(self, ask)
        unchanged(self, ground.flight, 1)
        self.assertEqual(ground.flight(1), ground.flight(number=1))

    def test_by_names(self):
        ground = Ground(LAND)
        self.assertEqual(0, ground.fly(flight=a_flight(0, 0)))
        self.assertIs(True, ground.tell(winds=EAST))
        self.assertIsNone(ground.send(heard=(True,), news=((),)))
        self.assertIs(True, ground.call_home(number=0))
        self.assertIs(True, ground.weaken(flyer=FLYER, number=0))
        self.assertIs(True, ground.give(task=None, number=0))
        self.assertEqual((), ground.go(weather=()))
        self.assertIsNone(ground.rest(number=0))
        self.assertEqual((), ground.together(look=None, deeds=()))
        self.assertEqual((9, 9), ground.log())

    def test_log_counts_what_is_refused(self):
        ground = Ground(LAND)
        for deed, handed in (("fly", (None,)), ("tell", (None,)), ("send", (None, None)), ("call_home", (0,)), ("rest", (0,)),
                             ("weaken", (0, None)), ("give", (0, None)), ("go", (None,)), ("together", (None,))):
            with self.assertRaises((errors.FleetError, KeyError)):
                getattr(ground, deed)(*handed)
        self.assertEqual((9, 9), ground.log())
        # What is told is no deed.
        shown(ground)
        with self.assertRaises(errors.NoNumber):
            ground.flight(0)
        self.assertEqual((9, 9), ground.log())


class Equality(unittest.TestCase):
    def same(self, wanted, one, other):
        for first, second in ((one, other), (other, one)):
            self.assertIs(wanted, first == second)
            self.assertIs(not wanted, first != second)

    def test_by_land_apart_and_winds(self):
        self.same(True, Ground(LAND), Ground(copy.deepcopy(LAND)))
        self.same(False, Ground(LAND), Ground(Land(6, 4, day=6, pads=PADS)))
        self.same(True, Ground(LAND), Ground(LAND, apart=1))
        self.same(False, Ground(LAND), Ground(LAND, apart=2))
        self.same(False, Ground(LAND), Ground(LAND, winds=EAST))
        ground = Ground(LAND)
        ground.tell(EAST)
        self.same(True, Ground(LAND, winds=EAST), ground)

    def test_by_beat_and_story(self):
        one, other = Ground(LAND), Ground(LAND)
        one.go(())
        self.same(False, one, other)
        other.go(())
        self.same(True, one, other)
        # The same place by two ways.
        grounds = []
        for wind in ((0, 0), (1, 0)):
            ground = a_ground(a_flight(2, 1), winds=EAST)
            ground.go((((2, 1, 0), wind),))
            ground.go(())
            grounds.append(ground)
        self.assertEqual(*[ground.flight(0)[1][:2] for ground in grounds])
        for ground in grounds:
            ground.weaken(0, (2, 9, 1, 1))
            ground.weaken(0, FLYER)
        self.assertEqual(*[ground.fleet() for ground in grounds])
        self.same(False, *grounds)

    def test_by_flights_numbers_and_the_number_to_come(self):
        one = a_ground(a_flight(0, 0), a_flight(0, 1))
        self.same(True, one, a_ground(a_flight(0, 0), a_flight(0, 1)))
        self.same(False, one, a_ground(a_flight(0, 1), a_flight(0, 0)))
        self.same(False, one, a_ground(a_flight(0, 0)))
        one.rest(1)
        self.same(False, one, a_ground(a_flight(0, 0)))
        again = a_ground(a_flight(0, 0), a_flight(0, 2))
        again.rest(1)
        self.same(True, one, again)
        # The same flight by another number, the number to come the same.
        first, second = [a_ground(a_flight(0, 0), a_flight(0, 0)) for k in range(2)]
        first.rest(0)
        second.rest(1)
        self.same(False, first, second)

    def test_not_by_log(self):
        one, other = Ground(LAND), Ground(LAND)
        one.together(())
        with self.assertRaises(errors.NoWinds):
            one.tell(None)
        self.assertNotEqual(one.log(), other.log())
        self.same(True, one, other)

    def test_other_things(self):
        for thing in ANYTHING + (LAND,):
            self.same(False, Ground(LAND), thing)

    def test_no_two_share_anything(self):
        one, other = Ground(LAND), Ground(LAND)
        one.fly(a_flight(0, 0))
        one.go(())
        self.assertEqual((0, 0, ()), (len(other), other.beat(), other.story()))
        self.assertEqual((0, 0), other.log())
        self.assertEqual(0, other.fly(a_flight(0, 0)))


class OverManyDeeds(unittest.TestCase):
    def test_against_a_second_telling(self):
        seen = {}
        for number in range(150):
            rand = random.Random(number)
            land = a_fair_land(rand, rand.randint(3, 6))
            winds, apart = rand.choice(((), fair_winds(rand, land))), rand.choice((1, 1, 2, 3))
            ground, again = Ground(land, winds=winds, apart=apart), GroundAgain(land, winds, apart)
            for step in range(25):
                if rand.random() < 0.15:
                    deeds = tuple(self.a_deed(rand, land, ground) for k in range(rand.randrange(1, 4)))
                    deed = ("together", deeds)
                else:
                    deed = self.a_deed(rand, land, ground)
                word, *handed = deed
                wanted = self.outcome(again, word, handed)
                got = self.outcome(ground, word, handed)
                self.assertEqual(repr(wanted), repr(got), (number, step, deed))
                seen[word, wanted[0]] = seen.get((word, wanted[0]), 0) + 1
                told = shown(ground)[:7]
                self.assertEqual(repr(again.all_told()), repr(told), (number, step, deed))
        for wanted in (
            ("fly", "told"), ("fly", "NotLet"), ("fly", "Full"), ("fly", "Over"), ("tell", "told"), ("send", "told"),
            ("send", "NotLet"), ("send", "Over"), ("call_home", "told"), ("call_home", "NoNumber"), ("weaken", "told"),
            ("give", "told"), ("give", "NoTask"), ("rest", "told"), ("rest", "NotHome"), ("go", "told"), ("go", "NoWeather"),
            ("go", "Over"), ("together", "told"), ("together", "Undone"),
        ):
            self.assertIn(wanted, seen)

    def outcome(self, ground, word, handed):
        try:
            return "told", getattr(ground, word)(*handed)
        except Refusal as refusal:
            return refusal.name, refusal.told
        except errors.Undone as refusal:
            return "Undone", (refusal.at, *name_and_field(refusal.__cause__))
        except (errors.FleetError, KeyError) as refusal:
            return name_and_field(refusal)

    def a_deed(self, rand, land, ground):
        """A deed that is done rather often."""
        word = rand.choice(("fly",) * 6 + ("go",) * 4 + ("tell", "send", "send", "call_home", "weaken", "give", "rest", "rest"))
        number = rand.choice((*ground.numbers(), *ground.numbers(), 0, 1, 9, True))
        flight = a_fair_flight(rand, land)
        if rand.random() < 0.5:
            # One that rests at home, so that some come through.
            flight = ((2, 9, 30, 3), (0, rand.randrange(land.high), 0, 30), flight[2][:2], None, 0)
        news = tuple(rand.choice((None, (), flight[2])) for k in ground.numbers())
        winds = rand.choice(((), fair_winds(rand, land)))
        return word, *{
            "fly": (flight if rand.random() < 0.95 else None,), "go": (self.a_weather(rand, land, ground),), "tell": (winds,),
            "send": (news, tuple(rand.random() < 0.5 for way in news)), "call_home": (number,), "rest": (number,),
            "weaken": (number, rand.choice(((1, 9, 20, 2), (2, 9, 40, 2), (2, 9, 3, 1), None))),
            "give": (number, rand.choice((None, flight[3], ("look", (0, 0, 0, 0), 9, 9)))),
        }[word]

    def a_weather(self, rand, land, ground):
        if rand.random() < 0.1:
            return rand.choice((None, (((0, 0, 99), (0, 0)),), (((0, 0, 0), (2, 2)),)))
        rows = []
        for x, y in sorted({made[1][:2] for made in ground.fleet()}):
            if ground.beat() < land.day:
                rows.append(((x, y, ground.beat()), rand.choice(winds_at(ground.winds(), x, y, ground.beat()))))
        return tuple(rows)

    def test_sixty_deeds_at_the_bounds(self):
        land, winds, fleet = the_greatest_fleet()
        ground = Ground(land, winds=winds, apart=3)
        for flight in fleet:
            ground.fly(flight)
        for beat in range(12):
            ground.tell(winds)
            ground.send((None, (), None, None), (True, False, True, True))
            ground.give(0, None)
            self.assertEqual((), ground.go(()))
        self.assertEqual((52, 52), ground.log())
        self.assertEqual((0, 1, 2, 3), ground.numbers())
        self.assertEqual("let", ground.word()[0])
