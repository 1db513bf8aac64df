import random
import unittest

from tests.helping import (
    ANYTHING, a_fair_fleet, deep, fair_news, heard_again, hearings, spoiled, the_greatest_fleet, unchanged,
)
from windfleet.fleetchecks import breach_holds
from windfleet.fleets import fleet_told
from windfleet.judging import judged
from windfleet.lands import Land
from windfleet.lets import let_holds
from windfleet.nears import apart_holds
from windfleet.news import is_news, news_told
from windfleet.newschecks import lost_holds, news_hold

STAND = ("stand",)
FLYER = (2, 9, 50, 3)
LAND = Land(6, 3, day=4, pads=((0, 0, 0, 2, 4), (5, 0, 5, 2, 1), (3, 0, 3, 0, 1)))


def a_flight(x, y, *way, home=0, charge=50):
    return FLYER, (x, y, 0, charge), way, None, home


class IsNews(unittest.TestCase):
    FLEET = (a_flight(0, 0), a_flight(0, 1), a_flight(0, 2))
    NEWS = (None, (), (("go", 1, -2), ("aim", 0, 11), STAND, ("home",)))

    def asked(self, thing, fleet=FLEET):
        told = unchanged(self, is_news, fleet, thing)
        self.assertIn(repr(told), ("True", "False"))
        return told

    def test_news(self):
        self.assertIs(True, self.asked(self.NEWS))
        self.assertIs(True, self.asked((None, None, None)))
        self.assertIs(True, self.asked(((), (), ())))
        self.assertIs(True, self.asked((None, None, (STAND,) * 24)))
        for many in (1, 2):
            self.assertIs(True, self.asked(self.NEWS[:many], self.FLEET[:many]))

    def test_too_few_or_too_many(self):
        for thing in ((), (None,), (None, None), (None,) * 4, self.NEWS[:2], self.NEWS[1:], self.NEWS + (None,)):
            self.assertIs(False, self.asked(thing))
        self.assertIs(False, self.asked((None, None), self.FLEET[:1]))

    def test_no_ways(self):
        for way in (False, True, 0, "", "stand", [], {}, STAND, ("go", 1, 0), (("go", 3, 0),), (("go", True, 0),),
                    ((),), (None,), (STAND,) * 25, [STAND], (["stand"],), (("aim", 12, 0),), (("aim", -1, 0),)):
            for at in range(3):
                self.assertIs(False, self.asked((None,) * at + (way,) + (None,) * (2 - at)), way)

    def test_of_anything(self):
        for thing in ANYTHING + (deep(30), list(self.NEWS), self.FLEET, {0: None, 1: None, 2: None}):
            self.assertIs(False, self.asked(thing), thing)
        # A word may be lacking anywhere, so None for a way is news still.
        for wrong in spoiled(self.NEWS, [(1,), (2,)]):
            news = isinstance(wrong, tuple) and len(wrong) == 3
            # By their signs: a truth equals a number, but isn't written so.
            news = news and all(repr(way) in ("None", "()", repr(self.NEWS[2])) for way in wrong)
            self.assertIs(news, self.asked(wrong), wrong)

    def test_by_names(self):
        self.assertIs(True, is_news(thing=self.NEWS, fleet=self.FLEET))


class Asking(unittest.TestCase):
    def let(self, fleet, news, land=LAND, winds=(), since=0, apart=1):
        told = unchanged(self, news_told, land, winds, fleet, news, since, apart=apart)
        self.assertIsInstance(told, tuple)
        self.assertEqual(("let", 3), (told[0], len(told)))
        self.assertIs(True, unchanged(self, news_hold, land, winds, fleet, news, since, told, apart=apart))
        self.assertIs(False, lost_holds(land, winds, fleet, news, since, told, apart=apart))
        return told

    def lost(self, fleet, news, land=LAND, winds=(), since=0, apart=1):
        told = unchanged(self, news_told, land, winds, fleet, news, since, apart=apart)
        self.assertIsInstance(told, tuple)
        self.assertEqual(("lost", 3), (told[0], len(told)))
        word, heard, breach = told
        self.assertIn(repr(heard), [repr(hearing) for hearing in hearings(news)])
        led = heard_again(fleet, news, heard)
        self.assertEqual(fleet_told(land, winds, led, since, apart=apart), breach)
        self.assertIs(True, breach_holds(land, winds, led, since, breach, apart=apart))
        self.assertIs(True, unchanged(self, lost_holds, land, winds, fleet, news, since, told, apart=apart))
        self.assertIs(False, news_hold(land, winds, fleet, news, since, told, apart=apart))
        return heard, breach


class Told(Asking):
    def test_no_word_at_all(self):
        fleet = (a_flight(0, 0, STAND), a_flight(0, 2, STAND))
        word, singles, pairs = self.let(fleet, (None, None))
        self.assertEqual([1, 1], [len(papers) for papers in singles])
        self.assertEqual([[1]], [[len(row) for row in rows] for rows in pairs])
        self.let(fleet[:1], (None,))
        late = a_flight(5, 0, STAND, STAND, STAND)
        heard, breach = self.lost((fleet[0], late), (None, None))
        self.assertEqual(((False, False), ("flight", 1)), (heard, breach[:2]))

    def test_one_word(self):
        fleet = (a_flight(0, 0, STAND), a_flight(0, 2, STAND), a_flight(5, 0, home=1))
        news = (None, (("go", 1, 0),), None)
        word, singles, pairs = self.let(fleet, news)
        self.assertEqual([1, 2, 1], [len(papers) for papers in singles])
        self.assertEqual([[2], [1], [1, 1]], [[len(row) for row in rows] for rows in pairs])

    def test_words_for_all(self):
        fleet = (a_flight(0, 0, STAND), a_flight(0, 2, STAND), a_flight(5, 0, home=1))
        news = ((("go", 1, 0),), (("go", 1, 0),), ())
        word, singles, pairs = self.let(fleet, news)
        self.assertEqual([2, 2, 2], [len(papers) for papers in singles])
        self.assertEqual([[2, 2]] * 3, [[len(row) for row in rows] for rows in pairs])

    def test_papers_as_it_is_first_then_by_the_new_way(self):
        fleet = (a_flight(0, 0, STAND), a_flight(0, 2, STAND))
        news = ((("go", 1, 0),), (("go", 2, 0),))
        word, singles, pairs = self.let(fleet, news)
        led = [(made, (*made[:2], way, *made[3:])) for made, way in zip(fleet, news)]
        for flights, papers in zip(led, singles):
            for made, paper in zip(flights, papers):
                self.assertIs(True, let_holds(LAND, (), made, 0, paper))
            self.assertIs(False, let_holds(LAND, (), flights[0], 0, papers[1]))
        for one, row in zip(led[0], pairs[0]):
            for other, paper in zip(led[1], row):
                self.assertIs(True, apart_holds(LAND, (), one, other, 0, paper))
        self.assertIs(False, apart_holds(LAND, (), led[0][1], led[1][0], 0, pairs[0][0][1]))

    def test_a_new_way_that_is_not_let_by(self):
        fleet = (a_flight(0, 0, STAND), a_flight(0, 2, STAND))
        out = (("go", 0, 1),)
        heard, breach = self.lost(fleet, (None, out))
        self.assertEqual(((False, True), ("flight", 1)), (heard, breach[:2]))
        heard, breach = self.lost(fleet, ((), out))
        self.assertEqual((True, ("flight", 1)), (heard[1], breach[:2]))

    def test_an_old_way_that_is_not_let_by(self):
        # Heard, the word would save it; lost, it doesn't.
        fleet = (a_flight(0, 0, STAND), a_flight(0, 2, ("go", 0, 1)))
        heard, breach = self.lost(fleet, ((), (STAND,)))
        self.assertEqual((False, ("flight", 1)), (heard[1], breach[:2]))

    def test_near_where_one_word_of_two_is_lost(self):
        # Both as they are, and both by their new ways, are apart; one heard alone leads both to one square.
        fleet = (a_flight(0, 0, ("go", 1, 0)), a_flight(0, 2, ("go", 2, -1)))
        news = ((("go", 2, 1),), (("go", 1, -2),))
        for heard in ((False, False), (True, True)):
            self.assertEqual("let", fleet_told(LAND, (), heard_again(fleet, news, heard), 0)[0])
        heard, breach = self.lost(fleet, news)
        self.assertIn(heard, ((True, False), (False, True)))
        self.assertEqual(("pair", 0, 1), breach[:3])

    def test_a_pad_that_is_too_small_where_words_are_heard(self):
        # By its new way the first stands on the pad at which the second is at home, or the third stands.
        visit = (("aim", 3, 0), STAND)
        fleet = (a_flight(1, 0), a_flight(3, 0, STAND, home=2))
        heard, breach = self.lost(fleet, (visit, None))
        self.assertEqual(((True, False), ("pad", 2)), (heard, breach[:2]))
        heard, breach = self.lost(fleet, (visit, (STAND, STAND)))
        self.assertEqual((True, ("pad", 2)), (heard[0], breach[:2]))
        wide = Land(6, 3, day=4, pads=LAND.pads[:2] + ((3, 0, 3, 0, 2),))
        self.let(fleet, (visit, None), wide)

    def test_a_pad_used_by_one_as_it_is_by_another_by_its_new_way(self):
        # Never both, as it is or where both words are heard; one word lost, both stand there.
        visit, later = (("aim", 3, 0), STAND), (("go", 0, 0), ("aim", 3, 0), STAND)
        land = Land(6, 3, day=6, pads=LAND.pads)
        fleet = (a_flight(1, 0, *visit), a_flight(1, 2))
        news = ((), later)
        for heard in ((False, False), (True, True), (True, False)):
            self.assertEqual("let", fleet_told(land, (), heard_again(fleet, news, heard), 0)[0], heard)
        heard, breach = self.lost(fleet, news, land)
        self.assertEqual(((False, True), ("pad", 2)), (heard, breach[:2]))
        self.assertEqual([0, 1], [k for k, run in breach[2]])

    def test_by_either_way_it_counts_once(self):
        land = Land(6, 3, day=4, pads=((0, 0, 0, 2, 1), (5, 0, 5, 2, 1)))
        self.let((a_flight(0, 0, STAND), a_flight(5, 0, STAND, home=1)), ((), (STAND, STAND)), land)

    def test_apart_is_handed_on(self):
        fleet = (a_flight(1, 0), a_flight(2, 2))
        self.let(fleet, (None, ()))
        self.assertEqual(("pair", 0, 1, (), ()), self.lost(fleet, (None, ()), apart=3)[1])
        self.assertEqual("let", news_told(LAND, (), fleet, (None, None), 0)[0])

    def test_by_names(self):
        told = news_told(apart=1, since=4, news=(None,), fleet=(a_flight(0, 0),), winds=(), land=LAND)
        self.assertEqual(("let", ((((((0, 0, 0, 50),),), (((0, 0, 0, 50),),)),),), ()), told)


class OneByOne(Asking):
    def test_against_all_hearings(self):
        words = {}
        for number in range(500):
            rand = random.Random(number)
            land, winds, fleet, since = a_fair_fleet(rand, judged, most=3)
            news, apart = fair_news(rand, fleet, land), rand.choice((1, 1, 2, 3))
            self.assertIs(True, is_news(fleet, news))
            told = [fleet_told(land, winds, heard_again(fleet, news, heard), since, apart=apart) for heard in hearings(news)]
            if {breach[0] for breach in told} == {"let"}:
                self.let(fleet, news, land, winds, since, apart)
                words["let"] = words.get("let", 0) + 1
            else:
                breach = self.lost(fleet, news, land, winds, since, apart)[1]
                words[breach[0]] = words.get(breach[0], 0) + 1
        self.assertEqual({"let", "flight", "pair", "pad"}, set(words))
        self.assertGreater(words["let"], 50)

    def test_the_greatest_of_what_is_promised(self):
        land, winds, fleet = the_greatest_fleet()
        news = (fleet[0][2] + (("go", 0, 0),), fleet[1][2][:-1], (STAND,), ())
        for apart in (1, 3):
            self.let(fleet, news, land, winds, 0, apart)
