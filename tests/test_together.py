import copy

from tests.helping import ANYTHING, deep, told_so
from tests.test_grounds import EAST, FLYER, LAND, STAND, Asking, a_flight, a_ground, at_day, shown
from windfleet import errors
from windfleet.fleets import fleet_told
from windfleet.grounds import Ground

OUT = (("go", 1, 0),)
# Each deed once, of a ground room with a flight that rests at (0, 3) by the number 0.
EVERY = (
    ("fly", a_flight(0, 0, ("go", 1, 0))), ("tell", EAST), ("send", (None, (("go", 0, 0),)), (True, True)), ("call_home", 1),
    ("weaken", 1, (2, 9, 40, 3)), ("give", 1, ("look", (0, 0, 0, 0), 0, 6)), ("rest", 0), ("go", ()),
)


class Together(Asking):
    def test_each_word(self):
        ground, one_by_one = a_ground(a_flight(0, 3)), a_ground(a_flight(0, 3))
        told = ground.together(EVERY)
        told_so(self, "together", (1, True, None, True, True, True, None, ()), told)
        told_so(self, "one by one", tuple(getattr(one_by_one, word)(*handed) for word, *handed in EVERY), told)
        self.assertEqual(one_by_one, ground)
        told_so(self, "shown", shown(one_by_one), shown(ground))
        self.assertEqual(((10, 10), (9, 9)), (ground.log(), one_by_one.log()))

    def test_each_word_by_itself(self):
        for deed in EVERY[:2] + EVERY[6:]:
            ground, alone = a_ground(a_flight(0, 3)), a_ground(a_flight(0, 3))
            self.assertEqual((getattr(alone, deed[0])(*deed[1:]),), ground.together((deed,)))
            self.assertEqual(alone, ground)

    def test_none(self):
        ground = a_ground(a_flight(0, 3))
        self.done((), ground, "together", ())
        self.assertIs(False, ground.busy())

    def test_beyond_day(self):
        ground = Ground(LAND)
        self.assertEqual(((),) * 6, ground.together((("go", ()),) * 6))
        with self.assertRaises(errors.Undone) as caught:
            ground.together((("tell", EAST), ("go", ())))
        self.assertEqual((1, errors.Over), (caught.exception.at, type(caught.exception.__cause__)))
        self.assertEqual((), ground.winds())


class NoDeed(Asking):
    def test_no_tuple(self):
        ground = a_ground(a_flight(0, 3))
        for thing in ANYTHING + (deep(30), [("go", ())], {("go", ()): 0}):
            if not isinstance(thing, tuple):
                self.refused("NoDeed", -1, ground, "together", thing)

    def test_the_first_place_that_is_none(self):
        ground = a_ground(a_flight(0, 3))
        fine = ("go", ())
        for thing in ANYTHING + (
            deep(28), "go", ["go", ()], ("go",), ("go", (), ()), ("together", ()), ("together", (), None), ("beat",), ("word",),
            ("Go", ()), ("send", ()), ("send", (), (), ()), ("weaken", 0), ("give", 0), ("fly",), (["go"], ()), (("go",), ()),
            (None, ()), (True, ()), ("flight", 0), ("log",), ("go ", ()), ((), ()), ({}, ()), ("keep", 0), ("fly_in", 0),
        ):
            self.refused("NoDeed", 0, ground, "together", (thing,))
            self.refused("NoDeed", 2, ground, "together", (fine, fine, thing, fine, None))

    def test_none_is_done_ahead(self):
        ground = a_ground(a_flight(0, 3))
        looked = []
        self.refused("NoDeed", 1, ground, "together", (("go", ()), None), look=looked.append)
        # Ahead of a deed that would be refused.
        self.refused("NoDeed", 1, ground, "together", (("go", None), None), look=looked.append)
        self.assertEqual([], looked)

    def test_what_it_takes_may_be_anything(self):
        names = {
            "fly": "NoFlight", "tell": "NoWinds", "send": "NoNews", "call_home": "NoNumber", "weaken": "NoNumber",
            "give": "NoNumber", "rest": "NoNumber", "go": "NoWeather",
        }
        for word, name in names.items():
            for thing in (None, [], {}, deep(25), "x", (((),),), 10 ** 30):
                ground = a_ground(a_flight(0, 3))
                deed = (word, thing, thing) if word in ("send", "weaken", "give") else (word, thing)
                with self.assertRaises(errors.Undone) as caught:
                    ground.together((("tell", EAST), deed))
                self.assertEqual((1, name), (caught.exception.at, type(caught.exception.__cause__).__name__))
                self.assertEqual(a_ground(a_flight(0, 3)), ground)


class Undone(Asking):
    def undone(self, at, cause, ground, deeds, look=None):
        """The deeds are undone so; all is as ahead but the log. What is told is the cause."""
        before, twin = shown(ground), copy.deepcopy(ground)
        with self.assertRaises(errors.Undone) as caught:
            ground.together(deeds, look=look)
        self.assertIs(errors.Undone, type(caught.exception))
        self.assertEqual((repr(at), cause), (repr(caught.exception.at), type(caught.exception.__cause__)))
        told_so(self, "shown", before, shown(ground))
        self.assertEqual(twin, ground)
        self.assertIs(False, ground.busy())
        return caught.exception.__cause__

    def test_at_each_place(self):
        wrong = ("fly", a_flight(4, 3))
        for at in range(8):
            ground = a_ground(a_flight(0, 3))
            begun = ground.log()[0]
            cause = self.undone(at, errors.NotLet, ground, EVERY[:at] + (wrong,) + EVERY[at:])
            self.assertEqual("flight", cause.told[0])
            # The one together, those done, and the one refused.
            self.assertEqual((begun + at + 2,) * 2, ground.log())
            # Numbers to come, too.
            self.assertEqual(1, ground.fly(a_flight(0, 0)))

    def test_each_refusal_is_the_cause(self):
        for deed, cause in (
            (("fly", None), errors.NoFlight), (("fly", a_flight(0, 0, ("go", -1, 0))), errors.NotLet), (("tell", None), errors.NoWinds),
            (("send", (), ()), errors.NoNews), (("call_home", 7), errors.NoNumber), (("weaken", 0, None), errors.NoFlyer),
            (("give", 0, ()), errors.NoTask), (("rest", 0), errors.NotHome), (("go", None), errors.NoWeather),
        ):
            ground = a_ground(a_flight(0, 3, STAND, STAND, STAND))
            self.undone(1, cause, ground, (("go", ()), deed, ("go", ())))
        ground = a_ground(*[a_flight(0, y) for y in range(3)])
        self.undone(1, errors.Full, ground, (("fly", a_flight(0, 3)),) * 2)
        ground = at_day()
        self.undone(0, errors.Over, ground, (("go", ()),))

    def test_not_let_by_news(self):
        ground = a_ground(a_flight(1, 0), a_flight(1, 2))
        news = ((("go", 0, 1), ("go", 0, 0)), (("go", 0, -1), ("go", 0, 0)))
        cause = self.undone(1, errors.NotLet, ground, (("tell", ()), ("send", news, (False, False))))
        self.assertEqual((True, True), cause.told[0])

    def test_deeds_see_what_was_done_ahead_of_them(self):
        ground = Ground(LAND)
        told = ground.together((("fly", a_flight(0, 0, *OUT)), ("go", ()), ("call_home", 0), ("go", ()), ("rest", 0)))
        self.assertEqual((0, (), True, (), None), told)
        self.assertEqual((2, 0), (ground.beat(), len(ground)))
        near = fleet_told(LAND, (), (a_flight(1, 1), a_flight(1, 1)), 0)
        cause = self.undone(1, errors.NotLet, Ground(LAND), (("fly", a_flight(1, 1)),) * 2)
        self.assertEqual(near, cause.told)

    def test_look_refuses(self):
        for error in (errors.FleetError, errors.Full, errors.Undone, errors.NoNumber, errors.NoBooking, KeyError):
            for at in range(8):
                ground, seen = a_ground(a_flight(0, 3)), []
                why = error(3)

                def look(shown_ground):
                    seen.append(shown_ground.log())
                    if len(seen) == at + 1:
                        raise why

                cause = self.undone(at, error, ground, EVERY, look)
                self.assertIs(why, cause)
                self.assertEqual(at + 1, len(seen))
                self.assertEqual((at + 3,) * 2, ground.log())

    def test_a_key_that_is_not_there(self):
        self.undone(0, KeyError, a_ground(), (("go", ()),), lambda ground: {}["a"])

    def test_another_error_goes_on_as_it_is(self):
        for error in (ValueError, IndexError, LookupError, TypeError, ZeroDivisionError, RuntimeError, KeyboardInterrupt, SystemExit):
            for at in range(8):
                ground, seen, why = a_ground(a_flight(0, 3)), [], error("x")
                before, twin = shown(ground), copy.deepcopy(ground)

                def look(shown_ground):
                    seen.append(True)
                    if len(seen) == at + 1:
                        raise why

                with self.assertRaises(error) as caught:
                    ground.together(EVERY, look=look)
                self.assertIs(why, caught.exception)
                self.assertIsNone(why.__cause__)
                told_so(self, "shown", before, shown(ground))
                self.assertEqual(twin, ground)
                self.assertEqual((at + 3,) * 2, ground.log())
                self.assertEqual(1, ground.fly(a_flight(0, 0)))


class Look(Asking):
    def test_called_behind_each_with_the_ground(self):
        ground, seen = a_ground(a_flight(0, 3)), []
        again, states = a_ground(a_flight(0, 3)), []
        for word, *handed in EVERY:
            getattr(again, word)(*handed)
            states.append(shown(again)[:8])

        def look(shown_ground):
            self.assertIs(ground, shown_ground)
            seen.append((shown(shown_ground)[:8], shown_ground.log(), shown_ground.busy()))

        ground.together(EVERY, look=look)
        self.assertEqual(states, [told for told, log, busy in seen])
        # One was begun ahead, and the one together isn't ended.
        self.assertEqual([(at + 3, at + 2) for at in range(8)], [log for told, log, busy in seen])
        self.assertEqual([True] * 8, [busy for told, log, busy in seen])
        self.assertIs(False, ground.busy())

    def test_what_it_tells_is_nothing(self):
        ground = a_ground(a_flight(0, 3))
        self.assertEqual(((), ()), ground.together((("go", ()), ("go", ())), look=lambda shown_ground: False))

    def test_busy_of_all_deeds_within(self):
        for word, *handed in EVERY + (("together", ()), ("together", (("go", ()),)), ("together", None), ("fly", None), ("go", 5)):
            ground, seen = a_ground(a_flight(0, 3)), []

            def look(shown_ground):
                before = shown(shown_ground)
                begun, ended = shown_ground.log()
                with self.assertRaises(errors.Busy) as caught:
                    getattr(shown_ground, word)(*handed)
                self.assertIs(errors.Busy, type(caught.exception))
                self.assertEqual((begun + 1, ended + 1), shown_ground.log())
                told_so(self, word, before, shown(shown_ground))
                seen.append(word)

            self.assertEqual(((), True), ground.together((("go", ()), ("tell", EAST)), look=look))
            self.assertEqual([word] * 2, seen)
            # One flown, one together, two done, two refused.
            self.assertEqual((6, 6), ground.log())

    def test_busy_ahead_of_over(self):
        ground = at_day()

        def look(shown_ground):
            for word, *handed in EVERY:
                with self.assertRaises(errors.Busy):
                    getattr(shown_ground, word)(*handed)

        self.assertEqual((True,), ground.together((("tell", ()),), look=look))

    def test_busy_let_go_by_is_the_cause(self):
        ground = a_ground(a_flight(0, 3))
        with self.assertRaises(errors.Undone) as caught:
            ground.together((("tell", EAST),), look=lambda shown_ground: shown_ground.go(()))
        self.assertEqual((0, errors.Busy), (caught.exception.at, type(caught.exception.__cause__)))
        self.assertEqual(((), 0), (ground.winds(), ground.beat()))
        # One flown, one together, one told, one refused.
        self.assertEqual((4, 4), ground.log())

    def test_another_ground_within(self):
        ground, other = a_ground(a_flight(0, 3)), Ground(LAND)
        ground.together((("go", ()),), look=lambda shown_ground: other.together((("fly", a_flight(0, 0)),)))
        self.assertEqual((1, 1), (len(other), ground.beat()))
        self.assertEqual((FLYER, (0, 0, 0, 50), (), None, 0), other.flight(0))
