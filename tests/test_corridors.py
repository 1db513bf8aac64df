import itertools
import random
import unittest

from tests.helping import a_fair_land, a_fair_flight, a_room, fair_winds, runs_again, squares_of, told_so, unchanged
from windfleet.corridors import corridor, do_clash, grown
from windfleet.judging import judged
from windfleet.lands import Land, is_room
from windfleet.pairs import paired

LAND = Land(6, 4, day=4, pads=((0, 0, 0, 3, 4),))
FLYER = (2, 9, 50, 3)
STAND = ("stand",)


def a_flight(x, y, *way, charge=50):
    return FLYER, (x, y, 0, charge), way, None, 0


class Corridor(unittest.TestCase):
    def told(self, wanted, flight, winds=(), since=0, land=LAND):
        self.assertEqual("let", judged(land, winds, flight, since)[0])
        told_so(self, flight, wanted, unchanged(self, corridor, land, winds, flight, since))

    def test_each_beat_and_the_next_and_day_alone(self):
        self.told(
            ((0, 1, 1, 1, 0, 1), (1, 1, 2, 2, 1, 2), (0, 1, 2, 2, 2, 3), (0, 1, 0, 1, 3, 4), (0, 1, 0, 1, 4, 4)),
            a_flight(0, 1, ("go", 1, 0), ("go", 1, 1), ("aim", 0, 1)))

    def test_one_that_stands(self):
        stays = tuple((0, 2, 0, 2, beat, min(beat + 1, 4)) for beat in range(5))
        for way in ((), (STAND,) * 4, (("home",),)):
            self.told(stays, a_flight(0, 2, *way))

    def test_led_wide_by_winds(self):
        winds = (((0, 1, 0, 1, 0, 0), (0, 2, -1, 1)),)
        self.told(
            ((0, 0, 3, 2, 0, 1), (0, 0, 3, 2, 1, 2), (0, 1, 1, 1, 2, 3), (0, 1, 0, 1, 3, 4), (0, 1, 0, 1, 4, 4)),
            a_flight(0, 1, ("go", 1, 0)), winds)

    def test_since(self):
        out = a_flight(0, 1, ("go", 1, 0))
        self.told(((0, 1, 1, 1, 2, 3), (0, 1, 1, 1, 3, 4), (0, 1, 0, 1, 4, 4)), out, since=2)
        self.told(((0, 1, 0, 1, 3, 4), (0, 1, 0, 1, 4, 4)), a_flight(0, 1), since=3)
        self.told(((0, 1, 0, 1, 4, 4),), out, since=4)

    def test_steps_do_not_matter(self):
        made = a_flight(0, 1, ("go", 1, 0))
        looks = (*made[:3], ("look", (1, 1, 1, 1), 0, 4), 0)
        self.assertEqual(corridor(LAND, (), made, 0), corridor(LAND, (), looks, 0))

    def test_by_names(self):
        self.assertEqual(((0, 0, 0, 0, 4, 4),), corridor(since=4, flight=a_flight(0, 0), winds=(), land=LAND))

    def test_against_all_runs(self):
        many = 0
        for number in range(600):
            rand = random.Random(number)
            land = a_fair_land(rand, rand.randint(2, 4))
            winds, made = fair_winds(rand, land), a_fair_flight(rand, land)
            since = rand.choice((0, 0, 1, land.day))
            if judged(land, winds, made, since)[0] != "let":
                continue
            many += 1
            at = {beat: set() for beat in range(since, land.day + 1)}
            for run, states, word in runs_again(land, winds, made, since):
                at[since + len(run)].add(states[-1][:2])
            rooms = []
            for beat in at:
                squares = at[beat] | at.get(beat + 1, set())
                xs, ys = [x for x, y in squares], [y for x, y in squares]
                rooms.append((min(xs), min(ys), max(xs), max(ys), beat, min(beat + 1, land.day)))
            told_so(self, number, tuple(rooms), unchanged(self, corridor, land, winds, made, since))
        self.assertGreater(many, 100)


class Grown(unittest.TestCase):
    def told(self, wanted, rooms, by, land=LAND):
        told_so(self, rooms, wanted, unchanged(self, grown, land, rooms, by))

    def test_by_none_to_three(self):
        room = (3, 2, 3, 2, 1, 4)
        self.told((room,), (room,), 0)
        self.told(((2, 1, 4, 3, 1, 4),), (room,), 1)
        self.told(((1, 0, 5, 3, 1, 4),), (room,), 2)
        self.told(((0, 0, 5, 3, 1, 4),), (room,), 3)

    def test_at_the_lands_ends(self):
        for by in (1, 2, 3):
            self.told(((0, 0, by, by, 0, 0),), ((0, 0, 0, 0, 0, 0),), by)
            self.told(((5 - by, 3 - by, 5, 3, 4, 4),), ((5, 3, 5, 3, 4, 4),), by)
            self.told(((0, 0, 5, 3, 0, 4),), ((0, 0, 5, 3, 0, 4),), by)

    def test_several_and_none(self):
        self.told((), (), 2)
        rooms = ((3, 2, 3, 2, 1, 4), (0, 0, 0, 0, 0, 0), (3, 2, 3, 2, 1, 4))
        self.told(((2, 1, 4, 3, 1, 4), (0, 0, 1, 1, 0, 0), (2, 1, 4, 3, 1, 4)), rooms, 1)
        self.assertEqual(rooms, grown(by=0, rooms=rooms, land=LAND))

    def test_square_by_square(self):
        for number in range(200):
            rand = random.Random(number)
            land = Land(rand.randint(1, 7), rand.randint(1, 7), day=5)
            rooms = tuple(a_room(rand, land.wide, land.high, 5) for k in range(rand.randrange(4)))
            by = rand.randrange(4)
            for room, more in zip(rooms, grown(land, rooms, by), strict=True):
                self.assertTrue(is_room(land, more))
                self.assertEqual(room[4:], more[4:])
                steps = range(-by, by + 1)
                wanted = {(x + dx, y + dy) for x, y in squares_of(room) for dx in steps for dy in steps}
                self.assertEqual(wanted & squares_of((0, 0, land.wide - 1, land.high - 1)), squares_of(more))


class DoClash(unittest.TestCase):
    def clash(self, wanted, one, other):
        for first, second in ((one, other), (other, one)):
            self.assertIs(wanted, unchanged(self, do_clash, first, second), (first, second))

    def test_a_square_at_a_beat(self):
        room = (1, 1, 3, 2, 2, 4)
        self.clash(True, room, room)
        self.clash(True, room, (2, 2, 2, 2, 3, 3))
        self.clash(True, room, (0, 0, 5, 3, 0, 9))
        self.clash(True, room, (0, 2, 9, 2, 0, 9))

    def test_squares_alone_or_beats_alone(self):
        room = (1, 1, 3, 2, 2, 4)
        self.clash(False, room, (1, 1, 3, 2, 0, 1))
        self.clash(False, room, (1, 1, 3, 2, 5, 9))
        self.clash(False, room, (4, 1, 5, 2, 2, 4))
        self.clash(False, room, (0, 1, 0, 2, 2, 4))
        self.clash(False, room, (1, 3, 3, 3, 2, 4))
        self.clash(False, room, (1, 0, 3, 0, 2, 4))
        self.clash(False, room, (4, 3, 4, 3, 2, 4))

    def test_an_edge(self):
        room = (1, 1, 3, 2, 2, 4)
        self.clash(True, room, (3, 2, 5, 3, 4, 6))
        self.clash(True, room, (0, 0, 1, 1, 0, 2))
        self.clash(True, room, (3, 0, 4, 1, 4, 4))

    def test_by_names(self):
        self.assertIs(True, do_clash(other=(0, 0, 0, 0, 0, 0), one=(0, 0, 0, 0, 0, 0)))

    def test_square_by_square(self):
        for number in range(500):
            rand = random.Random(number)
            rooms = [a_room(rand, 4, 4, 4) for k in range(2)]
            one, other = [{(*square, beat) for square in squares_of(room) for beat in range(room[4], room[5] + 1)}
                          for room in rooms]
            self.clash(bool(one & other), *rooms)


class FlightsWithinRooms(unittest.TestCase):
    def test_two_whose_corridors_share_nothing_are_apart(self):
        seen = {1: 0, 2: 0, 3: 0}
        for number in range(800):
            rand = random.Random(number)
            land = Land(6, 6, day=rand.randint(2, 6), pads=((0, 0, 0, 5, 4), (5, 0, 5, 5, 4)))
            winds, since = fair_winds(rand, land), rand.choice((0, 0, 1))
            made = [a_fair_flight(rand, land) for k in range(10)]
            pair = [flight for flight in made if judged(land, winds, flight, since)[0] == "let"][:2]
            if len(pair) < 2:
                continue
            for apart in (1, 2, 3):
                rooms = grown(land, corridor(land, winds, pair[0], since), apart - 1)
                others = corridor(land, winds, pair[1], since)
                if any(do_clash(one, other) for one, other in itertools.product(rooms, others)):
                    continue
                seen[apart] += 1
                self.assertEqual("apart", paired(land, winds, *pair, since, apart=apart)[0], number)
                self.assertEqual("apart", paired(land, winds, *pair[::-1], since, apart=apart)[0], number)
        self.assertGreater(min(seen.values()), 30, seen)

    def test_one_square_nearer_they_may_be_near(self):
        one, other = a_flight(1, 0), a_flight(3, 0)
        for apart in (1, 2, 3):
            rooms = grown(LAND, corridor(LAND, (), one, 0), apart - 1)
            clash = any(do_clash(room, met) for room in rooms for met in corridor(LAND, (), other, 0))
            self.assertIs(True, clash)
        self.assertEqual("near", paired(LAND, (), one, other, 0, apart=3)[0])
