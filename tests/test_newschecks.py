import random
import unittest

from tests.helping import ANYTHING, a_fair_fleet, deep, fair_news, heard_again, hearings, replaced, spoiled, unchanged
from windfleet.fleetchecks import breach_holds, fleet_holds
from windfleet.fleets import fleet_told
from windfleet.judging import judged
from windfleet.lands import Land
from windfleet.lets import let_holds
from windfleet.news import news_told
from windfleet.newschecks import lost_holds, news_hold
from windfleet.pairs import paired

STAND = ("stand",)
FLYER = (2, 9, 50, 3)
PADS = ((0, 0, 0, 2, 2), (5, 0, 5, 2, 1), (3, 0, 3, 0, 1))
LAND = Land(6, 3, day=3, pads=PADS)


def a_flight(x, y, *way, home=0, charge=50):
    return FLYER, (x, y, 0, charge), way, None, home


def a_land(*many, day=3):
    return Land(6, 3, day=day, pads=tuple((*pad[:4], room) for pad, room in zip(PADS, many)))


FLEET = (a_flight(0, 0, STAND), a_flight(0, 2, STAND), a_flight(5, 0, STAND, home=1))
NEWS = ((("go", 1, 0),), (("go", 1, 0),), None)
TOLD = news_told(LAND, (), FLEET, NEWS, 0)


def papers_of(land, fleet, news, since=0):
    """What would be told if the pads had room."""
    led = [(made,) if way is None else (made, (*made[:2], way, *made[3:])) for made, way in zip(fleet, news)]
    singles = tuple(tuple(judged(land, (), made, since)[1] for made in flights) for flights in led)
    pairs = tuple(
        tuple(tuple(paired(land, (), one, other, since)[1] for other in led[k]) for one in led[j])
        for j in range(len(led)) for k in range(j + 1, len(led))
    )
    return "let", singles, pairs


class NewsHold(unittest.TestCase):
    def held(self, thing, fleet=FLEET, news=NEWS, land=LAND, winds=(), since=0, apart=1):
        told = unchanged(self, news_hold, land, winds, fleet, news, since, thing, apart=apart)
        self.assertIn(repr(told), ("True", "False"))
        return told

    def test_what_is_told(self):
        self.assertEqual("let", TOLD[0])
        self.assertIs(True, self.held(TOLD))
        self.assertIs(True, self.held(papers_of(LAND, FLEET, NEWS)))

    def test_papers_by_another_hand(self):
        wider = replaced(TOLD, (2, 0, 1, 0, 3), tuple(sorted(TOLD[2][0][1][0][3] + ((1, 0, 4, 2),))))
        self.assertIs(True, self.held(wider))
        owed = replaced(TOLD, (1, 1, 1, 1, 3), tuple((*state[:3], 0) for state in TOLD[1][1][1][1][3]))
        self.assertIs(True, self.held(owed))
        self.assertIs(False, self.held(replaced(wider, (2, 0, 1, 0, 3), wider[2][0][1][0][3] + ((4, 1, 4, 1),))))

    def test_papers_for_another_way(self):
        for news in ((NEWS[0], None, None), (None, NEWS[1], None), (None, None, None), (*NEWS[:2], ()),
                     ((("go", 2, 0),), *NEWS[1:]), (NEWS[0], (("go", 1, -1),), None)):
            self.assertIs(False, self.held(TOLD, news=news), news)
        # The two of one flight the other way round.
        self.assertIs(False, self.held(replaced(TOLD, (1, 0), TOLD[1][0][::-1])))
        self.assertIs(False, self.held(replaced(TOLD, (1, 0, 1), TOLD[1][0][0])))
        self.assertIs(False, self.held(replaced(TOLD, (1, 0, 0), TOLD[1][0][1])))

    def test_singles_too_few_or_too_many(self):
        self.assertIs(False, self.held(replaced(TOLD, (1,), TOLD[1][:2])))
        self.assertIs(False, self.held(replaced(TOLD, (1,), TOLD[1] + TOLD[1][2:])))
        self.assertIs(False, self.held(replaced(TOLD, (1,), ())))
        for k in range(3):
            self.assertIs(False, self.held(replaced(TOLD, (1, k), TOLD[1][k][:-1])))
            self.assertIs(False, self.held(replaced(TOLD, (1, k), TOLD[1][k] + TOLD[1][k][-1:])))
            self.assertIs(False, self.held(replaced(TOLD, (1, k), ())))

    def test_rows_of_pairs_too_short_or_too_long(self):
        self.assertIs(False, self.held(replaced(TOLD, (2,), TOLD[2][:2])))
        self.assertIs(False, self.held(replaced(TOLD, (2,), TOLD[2] + TOLD[2][2:])))
        self.assertIs(False, self.held(replaced(TOLD, (2,), ())))
        for at, rows in enumerate(TOLD[2]):
            self.assertIs(False, self.held(replaced(TOLD, (2, at), rows[:-1])))
            self.assertIs(False, self.held(replaced(TOLD, (2, at), rows + rows[-1:])))
            for by, row in enumerate(rows):
                self.assertIs(False, self.held(replaced(TOLD, (2, at, by), row[:-1])))
                self.assertIs(False, self.held(replaced(TOLD, (2, at, by), row + row[-1:])))

    def test_rows_for_the_ones_papers_of_the_others(self):
        # Two papers of the one, one of the other: two rows of one, not one row of two.
        rows = TOLD[2][1]
        self.assertEqual([1, 1], [len(row) for row in rows])
        self.assertIs(False, self.held(replaced(TOLD, (2, 1), ((rows[0][0], rows[1][0]),))))
        self.assertIs(False, self.held(replaced(TOLD, (2, 1), rows[::-1])))
        across = TOLD[2][0]
        self.assertIs(False, self.held(replaced(TOLD, (2, 0), tuple(zip(*across)))))

    def test_each_paper_counts(self):
        for k, papers in enumerate(TOLD[1]):
            for at in range(len(papers)):
                self.assertIs(False, self.held(replaced(TOLD, (1, k, at, 0, 3), ())))
        for k, rows in enumerate(TOLD[2]):
            for at, row in enumerate(rows):
                for by in range(len(row)):
                    self.assertIs(False, self.held(replaced(TOLD, (2, k, at, by, 3), ())))

    def test_without_news_it_is_as_of_the_fleet(self):
        news = (None, None, None)
        word, singles, pairs = fleet_told(LAND, (), FLEET, 0)
        thing = (word, tuple((paper,) for paper in singles), tuple(((paper,),) for paper in pairs))
        self.assertIs(True, self.held(thing, news=news))
        self.assertIs(False, self.held((word, singles, pairs), news=news))
        self.assertIs(False, fleet_holds(LAND, (), FLEET, 0, thing))

    def test_pads_by_home(self):
        for many in (1, 2):
            land = a_land(many, 1, 1)
            self.assertIs(many == 2, self.held(papers_of(land, FLEET, NEWS), land=land))

    def test_pads_by_either_paper(self):
        # The first stands on the pad as it is, the second by its new way.
        visit, later = (("aim", 3, 0), STAND), (("go", 0, 0), ("aim", 3, 0), STAND)
        for many in (1, 2):
            land = a_land(2, 1, many, day=6)
            for first, second, news in (
                (visit, (), ((), later)), ((), later, (visit, ())), (visit, later, (None, None)), ((), (), (visit, later)),
            ):
                fleet = (a_flight(1, 0, *first), a_flight(1, 2, *second))
                self.assertIs(many == 2, self.held(papers_of(land, fleet, news), fleet, news, land))
            # One of both alone, by either of its ways or by both, is not too many.
            for way, news in ((visit, ((), None)), ((), (visit, ())), (visit, (visit, None))):
                fleet = (a_flight(1, 0, *way), a_flight(1, 2))
                self.assertIs(True, self.held(papers_of(land, fleet, news), fleet, news, land))

    def test_apart_is_handed_on(self):
        fleet = (a_flight(1, 0), a_flight(2, 2))
        told = news_told(LAND, (), fleet, (None, ()), 0)
        for apart, wanted in ((1, True), (3, False)):
            self.assertIs(wanted, self.held(told, fleet, (None, ()), apart=apart))
        self.assertIs(True, news_hold(LAND, (), fleet, (None, ()), 0, told))

    def test_of_anything(self):
        for thing in ANYTHING + (deep(30), TOLD[1:], list(TOLD), TOLD + (None,), TOLD[:2], ("lost", *TOLD[1:])):
            self.assertIs(False, self.held(thing), thing)
        for word in ("", "lets", None, True, 0, ("let",)):
            self.assertIs(False, self.held((word, *TOLD[1:])))
        for thing in ANYTHING:
            for path in ((1,), (2,), (1, 2), (2, 2), (1, 2, 0), (2, 2, 0), (2, 2, 1, 0)):
                self.assertIs(False, self.held(replaced(TOLD, path, thing)), path)

    def test_each_part_spoilt_alone(self):
        fleet, news = FLEET[:2], (None, ())
        small = news_told(LAND, (), fleet, news, 3)
        self.assertEqual("let", small[0])
        free = [(1, k, at, part, 0) for k in (0, 1) for at in (0, 1) for part in (0, 1)]
        free += [(2, 0, 0, at, 0) for at in (0, 1)]
        for wrong in spoiled(small, free):
            self.assertIs(False, news_hold(LAND, (), fleet, news, 3, wrong), wrong)

    def test_by_names(self):
        self.assertIs(True, news_hold(apart=1, thing=TOLD, since=0, news=NEWS, fleet=FLEET, winds=(), land=LAND))


class LostHolds(unittest.TestCase):
    # By its new way the second goes out, by the first's it goes where the second is.
    FLEET = (a_flight(1, 0), a_flight(1, 2), a_flight(5, 0, STAND, home=1))
    NEWS = ((("go", 0, -1),), (("go", 0, -1), ("home",)), None)
    TOLD = ("lost", (True, False, False), ("flight", 0, 3, ((0, 0),)))

    def held(self, thing, fleet=FLEET, news=NEWS, land=LAND, winds=(), since=0, apart=1):
        told = unchanged(self, lost_holds, land, winds, fleet, news, since, thing, apart=apart)
        self.assertIn(repr(told), ("True", "False"))
        return told

    def test_what_is_told(self):
        told = news_told(LAND, (), self.FLEET, self.NEWS, 0)
        self.assertEqual("lost", told[0])
        self.assertIs(True, self.held(told))
        self.assertIs(True, self.held(self.TOLD))

    def test_heard_as_it_is_told(self):
        for heard in hearings(self.NEWS):
            self.assertIs(heard[0], self.held(("lost", heard, self.TOLD[2])), heard)

    def test_heard_where_there_is_no_word(self):
        self.assertIs(True, self.held(("lost", (True, True, False), self.TOLD[2])))
        self.assertIs(False, self.held(("lost", (True, False, True), self.TOLD[2])))
        self.assertIs(False, self.held(("lost", (True, True, True), self.TOLD[2])))
        self.assertIs(True, self.held(("lost", (True, False, True), self.TOLD[2]), news=(*self.NEWS[:2], ())))

    def test_heard_of_other_kinds(self):
        for heard in ([True, False, False], (1, 0, 0), (True, False, 0), (True, False), (True, False, False, False), (),
                      (True, None, False), "TFF", None, True, {0: True}, ((True, False, False),), (True, False, None)):
            self.assertIs(False, self.held(("lost", heard, self.TOLD[2])), heard)

    def test_told_any_of_the_three_that_is_so(self):
        # Where both words are heard: the second's way is no fault, both come to be near.
        fleet = (a_flight(1, 0), a_flight(1, 2), a_flight(0, 1))
        news = ((("go", 0, 1),), (("go", 0, -1),), (("go", 1, 0),))
        heard = (True, True, True)
        land = a_land(2, 1, 1)
        calm = ((0, 0),)
        for told in (("pair", 0, 1, calm, calm), ("pair", 0, 2, calm, calm), ("pair", 1, 2, calm, calm),
                     ("pad", 0, ((0, ()), (1, ()), (2, ())))):
            self.assertIs(True, self.held(("lost", heard, told), fleet, news, land), told)
            self.assertIs(told[0] == "pad", self.held(("lost", (False,) * 3, told), fleet, news, land), told)
        self.assertIs(False, self.held(("lost", heard, ("flight", 0, 3, calm)), fleet, news, land))
        told = fleet_told(land, (), heard_again(fleet, news, heard), 0)
        self.assertEqual(("pair", 0, 1), told[:3])
        self.assertIs(True, self.held(("lost", heard, told), fleet, news, land))
        self.assertIs(False, self.held(("lost", heard, fleet_told(a_land(4, 1, 1), (), fleet, 0)), fleet, news, land))

    def test_told_let_is_none(self):
        told = fleet_told(LAND, (), FLEET, 0)
        self.assertEqual("let", told[0])
        self.assertIs(False, self.held(("lost", (False,) * 3, told), FLEET, NEWS))

    def test_apart_is_handed_on(self):
        fleet = (a_flight(1, 0), a_flight(2, 2))
        thing = ("lost", (False, False), ("pair", 0, 1, (), ()))
        self.assertIs(True, self.held(thing, fleet, (None, ()), apart=3))
        self.assertIs(False, self.held(thing, fleet, (None, ()), apart=2))
        self.assertIs(False, lost_holds(LAND, (), fleet, (None, ()), 0, thing))

    def test_of_anything(self):
        for thing in ANYTHING + (deep(30), list(self.TOLD), self.TOLD + (None,), self.TOLD[:2], self.TOLD[1:], self.TOLD[2]):
            self.assertIs(False, self.held(thing), thing)
        for word in ("", "let", "Lost", None, True, 0, ("lost",)):
            self.assertIs(False, self.held((word, *self.TOLD[1:])))
        for thing in ANYTHING:
            self.assertIs(False, self.held(("lost", thing, self.TOLD[2])))
            self.assertIs(False, self.held(("lost", self.TOLD[1], thing)))
        # A truth for a truth: whether the second hears its word changes nothing of the first.
        so = [repr(("lost", heard, self.TOLD[2])) for heard in hearings(self.NEWS) if heard[0]]
        for wrong in spoiled(self.TOLD):
            self.assertIs(repr(wrong) in so, self.held(wrong), wrong)

    def test_by_names(self):
        told = lost_holds(apart=1, thing=self.TOLD, since=0, news=self.NEWS, fleet=self.FLEET, winds=(), land=LAND)
        self.assertIs(True, told)


class OneByOne(unittest.TestCase):
    def test_what_holds_is_so(self):
        held = {True: 0, False: 0}
        for number in range(300):
            rand = random.Random(number)
            land, winds, fleet, since = a_fair_fleet(rand, judged, most=3)
            news = fair_news(rand, fleet, land)
            led = [heard_again(fleet, news, heard) for heard in hearings(news)]
            told = [fleet_told(land, winds, flights, since) for flights in led]
            for heard, flights in zip(hearings(news), led):
                for breach in told:
                    wanted = breach_holds(land, winds, flights, since, breach)
                    self.assertIs(wanted, lost_holds(land, winds, fleet, news, since, ("lost", heard, breach)))
                    held[wanted] += 1
            word, *parts = news_told(land, winds, fleet, news, since)
            if word == "let":
                for k, papers in enumerate(parts[0]):
                    self.assertIs(True, let_holds(land, winds, fleet[k], since, papers[0]))
        self.assertGreater(min(held.values()), 50)
