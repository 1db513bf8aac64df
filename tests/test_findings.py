import random
import unittest

from tests.helping import (
    ANYTHING, a_case, a_fair_flight, a_fair_fleet, a_tasked_case, deep, replaced, runs_again, show_flight_again, show_land_again,
    show_winds_again, spoiled, unchanged,
)
from windfleet.findings import finding_holds
from windfleet.judging import judged
from windfleet.lands import Land
from windfleet.lets import break_holds, let_holds
from windfleet.nears import apart_holds, near_holds
from windfleet.pairs import paired
from windfleet.taskchecks import task_holds
from windfleet.tasking import tasked
from windfleet.weathers import flown, weather_of

LAND = Land(4, 2, day=3, pads=((0, 0, 0, 1, 2),))
WINDS = (((2, 0, 2, 1, 0, 3), (0, 1, 0, 0)),)
TASK = ("look", (3, 0, 3, 0), 1, 1)
FLIGHT = ((2, 9, 30, 3), (2, 0, 0, 20), (("go", 0, 0),), TASK, 0)
OTHER = ((2, 9, 30, 3), (1, 1, 0, 20), (), None, 0)
OUT = ((2, 9, 30, 3), (1, 1, 0, 20), (("go", 0, 1),), None, 0)
TEXTS = (show_land_again(LAND), show_winds_again(WINDS))
CALM = (0, 0)


def of_one(sort, *parts, flight=FLIGHT, since=0):
    return (sort, *TEXTS, show_flight_again(flight), since, *parts)


def of_two(sort, *parts, flight=FLIGHT, other=OTHER, since=0, apart=1):
    return (sort, *TEXTS, show_flight_again(flight), show_flight_again(other), since, apart, *parts)


LET = of_one("let", judged(LAND, WINDS, FLIGHT, 0)[1])
BREAKS = of_one("breaks", 3, (CALM,), flight=OUT)
LEADS = of_one("leads", ((1, 0),), (3, 0, 1))
APART = of_two("apart", paired(LAND, WINDS, FLIGHT, OTHER, 0)[1])
# The one stays, the other comes to where it is.
NEAR = of_two("near", (CALM,), (CALM,), flight=(*FLIGHT[:2], (("go", 0, 0),), None, 0),
              other=((2, 9, 30, 3), (1, 0, 0, 20), (("go", 1, 0),), None, 0))
PERHAPS = of_one("task", ("perhaps", ((1, 0), CALM, CALM), (CALM,) * 3))
FLOWN = of_one("flown", (((2, 0, 0), (1, 0)),), (0, 0, 1, 14))
EVERY = (LET, BREAKS, LEADS, APART, NEAR, PERHAPS, FLOWN)


class Asking(unittest.TestCase):
    def held(self, thing):
        told = unchanged(self, finding_holds, thing)
        self.assertIn(repr(told), ("True", "False"))
        return told


class Findings(Asking):
    def test_each_sort(self):
        for thing in EVERY:
            self.assertIs(True, self.held(thing), thing[0])

    def test_by_name(self):
        self.assertIs(True, finding_holds(thing=LET))

    def test_let(self):
        self.assertIs(True, self.held(LET))
        self.assertIs(False, self.held(replaced(LET, (5, 0, 3), ())))
        self.assertIs(False, self.held(replaced(LET, (3,), show_flight_again(OTHER))))
        self.assertIs(False, self.held(replaced(LET, (4,), 1)))
        self.assertIs(False, self.held(replaced(LET, (2,), "wind 2 0 2 1 0 3 -1 1 0 0")))
        self.assertIs(True, self.held(replaced(LET, (2,), "")))
        self.assertIs(True, self.held(of_one("let", judged(LAND, WINDS, OTHER, 2)[1], flight=OTHER, since=2)))

    def test_breaks(self):
        self.assertIs(True, self.held(BREAKS))
        for turn in (1, 2):
            self.assertIs(True, self.held(replaced(BREAKS, (5,), turn)))
        for turn in (0, -1, 4, None, True):
            self.assertIs(False, self.held(replaced(BREAKS, (5,), turn)), turn)
        for run in ((), (CALM, CALM), ((1, 0),), [CALM], None):
            self.assertIs(False, self.held(replaced(BREAKS, (6,), run)), run)

    def test_leads(self):
        self.assertIs(True, self.held(LEADS))
        self.assertIs(True, self.held(of_one("leads", (), (2, 0, 0))))
        self.assertIs(True, self.held(of_one("leads", (CALM,), (2, 0, 0))))
        for place in ((3, 0, 0), (2, 0, 1), (3, 1, 1), (3, 0, True), (3, False, 1), [3, 0, 1], (3, 0), (3, 0, 1, 18), None, (3, 0, 1, 0)):
            self.assertIs(False, self.held(replaced(LEADS, (6,), place)), place)
        for run in ((), (CALM,), ((2, 0),), ((1, 0), CALM), [(1, 0)], None, ((True, 0),)):
            self.assertIs(False, self.held(replaced(LEADS, (5,), run)), run)

    def test_leads_without_a_break_but_late(self):
        late = ((0, 9, 30, 3), (1, 0, 0, 20), (), None, 0)
        self.assertIs(True, self.held(of_one("leads", (CALM,) * 3, (1, 0, 0), flight=late)))
        self.assertIs(False, self.held(of_one("leads", (CALM,), (1, 2, 0), flight=OUT)))
        self.assertIs(False, self.held(of_one("leads", (CALM,), (1, 1, 0), flight=OUT)))
        empty = ((2, 9, 30, 3), (2, 0, 0, 1), (), None, 0)
        self.assertIs(False, self.held(of_one("leads", (CALM,), (0, 0, 0), flight=empty)))

    def test_apart_and_near(self):
        self.assertIs(True, self.held(APART))
        self.assertIs(False, self.held(replaced(APART, (7, 3), ())))
        self.assertIs(False, self.held(replaced(APART, (6,), 2)))
        one, other = (2, 0, 0, 20), (3, 1, 0, 20)
        pair = [((2, 9, 30, 3), state, (), None, 0) for state in (one, other)]
        for apart in (1, 2, 3):
            thing = of_two("near", (), (), flight=pair[0], other=pair[1], apart=apart)
            self.assertIs(apart > 1, self.held(thing))
            self.assertIs(False, self.held(replaced(thing, (7,), (CALM,))))
            self.assertIs(False, self.held(replaced(thing, (8,), None)))

    def test_one_wind_for_both(self):
        # Over the pad they are at one square, and one wind has both.
        land = Land(5, 1, day=3, pads=((0, 0, 0, 0, 2),))
        winds = (((0, 0, 0, 0, 0, 0), (0, 1, 0, 0)),)
        made = ((2, 9, 30, 3), (0, 0, 0, 20), (("go", 1, 0),), None, 0)
        head = ("near", show_land_again(land), show_winds_again(winds), *[show_flight_again(made)] * 2, 0)
        self.assertIs(True, self.held((*head, 1, (CALM,), (CALM,))))
        self.assertIs(False, self.held((*head, 2, (CALM,), ((1, 0),))))

    def test_task(self):
        self.assertIs(True, self.held(PERHAPS))
        self.assertIs(False, self.held(replaced(PERHAPS, (5,), PERHAPS[5][::-1])))
        self.assertIs(False, self.held(replaced(PERHAPS, (5, 1), (CALM,) * 3)))
        sure = (*FLIGHT[:3], ("look", (2, 0, 3, 0), 1, 1), 0)
        never = (*FLIGHT[:3], ("look", (2, 1, 3, 1), 1, 1), 0)
        for made, word in ((sure, "sure"), (never, "never")):
            told = tasked(LAND, WINDS, made, 0)
            self.assertEqual(word, told[0])
            self.assertIs(True, self.held(of_one("task", told, flight=made)))
            self.assertIs(False, self.held(of_one("task", ("never" if word == "sure" else "sure", told[1]), flight=made)))
        self.assertIs(False, self.held(of_one("task", told, flight=OTHER)))

    def test_flown(self):
        weather = (((2, 0, 0), (1, 0)),)
        states, word = flown(LAND, WINDS, FLIGHT, 0, weather)
        self.assertIsNone(word)
        thing = of_one("flown", weather, states[-1])
        self.assertIs(True, self.held(thing))
        for state in states[:-1] + ((*states[-1][:2], True, states[-1][3]), list(states[-1]), states[-1][:3], states[-1] + (0,), None):
            self.assertIs(False, self.held(replaced(thing, (6,), state)), state)
        for wrong in ((((2, 0, 0), (2, 0)),), (((2, 0, 3), (0, 0)),), list(weather), None, weather * 2, (), (((2, 0, 0), (True, 0)),)):
            self.assertIs(False, self.held(replaced(thing, (5,), wrong)), wrong)
        # The least wind leads it elsewhere.
        self.assertIs(True, self.held(of_one("flown", (), flown(LAND, WINDS, FLIGHT, 0, ())[0][-1])))

    def test_flown_with_a_word(self):
        late = ((0, 9, 30, 3), (1, 0, 0, 20), (), None, 0)
        self.assertEqual("late", flown(LAND, WINDS, late, 0, ())[1])
        self.assertIs(False, self.held(of_one("flown", (), (1, 0, 0, 17), flight=late)))
        self.assertIs(False, self.held(of_one("flown", (), (1, 1, 0, 20), flight=OUT)))

    def test_at_day(self):
        home = ((2, 9, 30, 3), (0, 0, 0, 20), (), TASK, 0)
        self.assertIs(True, self.held(of_one("flown", (), (0, 0, 0, 20), flight=home, since=3)))
        self.assertIs(True, self.held(of_one("leads", (), (0, 0, 0), flight=home, since=3)))
        self.assertIs(True, self.held(of_one("breaks", 3, (), flight=OUT, since=3)))
        self.assertIs(True, self.held(of_one("task", ("never", (((0, 0, 0),),)), flight=home, since=3)))


class Bounds(Asking):
    def test_since(self):
        for thing in EVERY:
            at = 5 if thing[0] in ("apart", "near") else 4
            for since in (-1, 4, True, False, None, "0", (0,), 10 ** 30, [0]):
                self.assertIs(False, self.held(replaced(thing, (at,), since)), (thing[0], since))

    def test_apart(self):
        for thing in (APART, NEAR, of_two("near", (), (), other=FLIGHT)):
            for apart in (0, 4, -1, True, None, "1", 10 ** 30, (1,)):
                self.assertIs(False, self.held(replaced(thing, (6,), apart)), apart)
        for apart in (1, 2, 3):
            self.assertIs(True, self.held(of_two("near", (), (), other=FLIGHT, apart=apart)))

    def two(self, land, winds=()):
        """Both findings of two flights of the land that would hold if it were within bounds."""
        one = ((2, 9, 30, 3), (0, 0, 0, 20), (), None, 0)
        other = ((2, 9, 30, 3), (1, 0, 0, 20), (), None, 0)
        texts = (show_land_again(land), show_winds_again(winds))
        paper = paired(land, winds, one, other, 0)
        self.assertEqual("apart", paper[0])
        self.assertTrue(apart_holds(land, winds, one, other, 0, paper[1]))
        apart = ("apart", *texts, show_flight_again(one), show_flight_again(other), 0, 1, paper[1])
        near = ("near", *texts, *[show_flight_again(other)] * 2, 0, 1, (), ())
        let = ("let", *texts, show_flight_again(one), 0, judged(land, winds, one, 0)[1])
        self.assertIs(True, self.held(let))
        return self.held(apart), self.held(near)

    def test_lands_days_and_winds_beyond_those_of_two_flights(self):
        pads = ((0, 0, 0, 0, 4),)
        for wide, high, within in ((6, 6, True), (12, 3, True), (9, 4, True), (7, 6, False), (12, 12, False), (10, 4, False), (6, 7, False)):
            self.assertEqual((within,) * 2, self.two(Land(wide, high, day=4, pads=pads)), (wide, high))
        for day, within in ((12, True), (13, False), (24, False)):
            self.assertEqual((within,) * 2, self.two(Land(6, 6, day=day, pads=pads)), day)
        land = Land(6, 6, day=4, pads=pads)
        for lets, within in (
            ((0, 2, 0, 0), True), ((0, 0, 0, 2), True), ((-1, 1, 2, 2), True), ((0, 1, 0, 1), False), ((-2, 1, 0, 0), False),
            ((0, 0, -2, 2), False), ((0, 2, 0, 2), False), ((0, 0, 0, 0), True),
        ):
            far = ((5, 5, 5, 5, 0, 4), lets)
            self.assertEqual((within,) * 2, self.two(land, (far,)), lets)
            self.assertEqual((within,) * 2, self.two(land, (((4, 5, 4, 5, 0, 4), (0, 0, 0, 0)), far)), lets)

    def test_one_flight_at_the_bounds(self):
        land = Land(12, 12, day=24, pads=((0, 0, 0, 11, 4),))
        winds = (((3, 0, 8, 11, 0, 24), (-1, 1, -1, 1)),)
        made = ((2, 9, 99, 9), (0, 5, 0, 99), (("go", 2, 0), ("go", 2, 0), ("go", 2, 0)), ("over", (4, 0, 8, 11), 9, 0, 24), 0)
        word, paper = judged(land, winds, made, 0)
        self.assertEqual("let", word)
        texts = (show_land_again(land), show_winds_again(winds), show_flight_again(made))
        self.assertIs(True, self.held(("let", *texts, 0, paper)))
        self.assertIs(True, self.held(("task", *texts, 0, tasked(land, winds, made, 0))))


class OfAnything(Asking):
    def test_no_findings(self):
        for thing in ANYTHING + (deep(30), list(LET), {0: LET}, (LET,), LET[1:], ("x", *LET[1:]), ("Let", *LET[1:])):
            self.assertIs(False, self.held(thing), thing)
        for word in (None, True, 0, ("let",), ["let"], {}, "", "lets", "flight", "pair", "sure"):
            for thing in EVERY:
                self.assertIs(False, self.held((word, *thing[1:])))

    def test_words_of_other_sorts(self):
        for thing in EVERY:
            for other in EVERY:
                if other[0] != thing[0]:
                    self.assertIs(False, self.held((other[0], *thing[1:])))

    def test_parts_too_few_and_too_many(self):
        for thing in EVERY:
            for wrong in (thing[:-1], thing + (0,), thing + ((),), thing + (None,), thing[:1], thing[:3], thing + thing[-1:]):
                self.assertIs(False, self.held(wrong))

    def test_texts_that_are_none(self):
        for thing in EVERY:
            texts = (1, 2, 3, 4) if thing[0] in ("apart", "near") else (1, 2, 3)
            for at in texts:
                for wrong in ANYTHING + (thing[at] + "\n", " " + thing[at], thing[at] + " ", thing[at].upper(), LAND, FLIGHT, [thing[at]],
                                         thing[at].replace("\n", " ; "), "\n".join([thing[at]] * 80)):
                    if wrong != thing[at] and not (at == 2 and wrong == "") and wrong != "land 3 3 12\npad 0 0 1 1 2":
                        self.assertIs(False, self.held(replaced(thing, (at,), wrong)), (thing[0], at, wrong))

    def test_a_land_without_a_pad(self):
        self.assertIs(False, self.held(replaced(LET, (1,), "land 4 2 3")))

    def test_each_part_spoilt_alone(self):
        for thing in (BREAKS, LEADS, PERHAPS, FLOWN):
            for wrong in spoiled(thing, [(5,)] if thing[0] == "flown" else ()):
                self.assertIs(self.is_so(thing, wrong), self.held(wrong), wrong)
        small = of_one("let", judged(LAND, WINDS, FLIGHT[:1] + ((0, 0, 0, 20),) + FLIGHT[2:], 3)[1], since=3,
                       flight=FLIGHT[:1] + ((0, 0, 0, 20),) + FLIGHT[2:])
        self.assertIs(True, self.held(small))
        for wrong in spoiled(small, [(5, 0, 0), (5, 1, 0)]):
            self.assertIs(False, self.held(wrong), wrong)
        pair = of_two("apart", paired(LAND, WINDS, FLIGHT, OTHER, 3)[1], since=3)
        for wrong in spoiled(pair, [(7, 0)]):
            self.assertIs(self.is_so(pair, wrong), self.held(wrong), wrong)

    def is_so(self, thing, wrong):
        """Whether a spoilt one is so still: winds of none are winds, too."""
        if not isinstance(wrong, tuple) or len(wrong) != len(thing) or repr(wrong[2]) != "''":
            return False
        return thing[0] in ("breaks", "apart")


class OneByOne(Asking):
    def test_as_the_checkers_tell(self):
        told = {}
        for number in range(500):
            rand = random.Random(number)
            land, winds, made = a_case(rand)
            since = rand.choice((0, 0, 1, land.day))
            texts = (show_land_again(land), show_winds_again(winds), show_flight_again(made))
            runs = [run for run in runs_again(land, winds, made, since)]
            run, states, word = rand.choice(runs)
            turn = rand.randint(since, land.day)
            weather = weather_of(land, winds, made, since, run)
            last, why = flown(land, winds, made, since, weather)
            place = rand.choice((states[-1][:3], states[0][:3]))
            for thing, wanted in (
                (("let", *texts, since, judged(land, winds, made, since)[1]), judged(land, winds, made, since)[0] == "let"),
                (("breaks", *texts, since, turn, run), break_holds(land, winds, made, since, (turn, run))),
                (("leads", *texts, since, run, place), word in (None, "late") and place == states[-1][:3]),
                (("flown", *texts, since, weather, last[-1]), why is None),
            ):
                self.assertIs(wanted, self.held(thing), thing)
                told[thing[0], wanted] = told.get((thing[0], wanted), 0) + 1
        self.assertEqual(8, len(told))
        self.assertGreater(min(told.values()), 10, told)

    def test_tasks_as_the_checker_tells(self):
        told = {}
        for number in range(600):
            rand = random.Random(number)
            case = a_tasked_case(rand, judged)
            if case is None:
                continue
            land, winds, made, since = case
            texts = (show_land_again(land), show_winds_again(winds), show_flight_again(made))
            thing = tasked(land, winds, made, since)
            for word in ("sure", "never", "perhaps"):
                wanted = task_holds(land, winds, made, since, (word, *thing[1:]))
                self.assertIs(wanted, self.held(("task", *texts, since, (word, *thing[1:]))))
                told[word, wanted] = True
            self.assertIs(let_holds(land, winds, made, since, thing), self.held(("let", *texts, since, thing)))
        self.assertEqual(6, len(told), told)

    def test_two_flights_as_the_checkers_tell(self):
        told = {}
        for number in range(300):
            rand = random.Random(number)
            land, winds, fleet, since = a_fair_fleet(rand, judged, most=2)
            one, other = (*fleet, a_fair_flight(rand, land))[:2]
            apart = rand.choice((1, 2, 3))
            texts = (show_land_again(land), show_winds_again(winds), show_flight_again(one), show_flight_again(other))
            word, *parts = paired(land, winds, one, other, since, apart=apart)
            by = rand.choice((1, 2, 3))
            if word == "near":
                wanted = near_holds(land, winds, one, other, since, tuple(parts), apart=by)
            else:
                wanted = apart_holds(land, winds, one, other, since, parts[0], apart=by)
            self.assertIs(wanted, self.held((word, *texts, since, by, *parts)))
            told[word, wanted] = True
        self.assertEqual(4, len(told), told)
