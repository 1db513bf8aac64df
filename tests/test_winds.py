import unittest

from tests.helping import ANYTHING, deep, spoiled, told_so, unchanged
from windfleet.lands import Land
from windfleet.winds import is_weather, is_winds, wind_by, winds_at

LAND = Land(4, 3, day=6)
ROOM = (1, 0, 2, 1, 3, 5)
ROW = (ROOM, (-1, 1, 0, 2))


class IsWinds(unittest.TestCase):
    def asked(self, thing):
        return unchanged(self, is_winds, LAND, thing)

    def test_none_to_eight_rows(self):
        for many in range(9):
            self.assertIs(True, self.asked((ROW,) * many))
        self.assertIs(False, self.asked((ROW,) * 9))
        self.assertIs(False, self.asked((ROW,) * 100))

    def test_all_bounds(self):
        for lx in range(-3, 4):
            for hx in range(-3, 4):
                for ly in range(-3, 4):
                    for hy in range(-3, 4):
                        many = len(range(lx, hx + 1)) * len(range(ly, hy + 1))
                        within = all(-2 <= bound <= 2 for bound in (lx, hx, ly, hy))
                        self.assertIs(within and 1 <= many <= 9, is_winds(LAND, ((ROOM, (lx, hx, ly, hy)),)))

    def test_nine_winds_and_ten(self):
        self.assertIs(True, self.asked(((ROOM, (-2, 0, 0, 2)),)))
        self.assertIs(False, self.asked(((ROOM, (-2, 2, 0, 1)),)))
        self.assertIs(False, self.asked(((ROOM, (0, 1, -2, 2)),)))

    def test_rooms_are_the_lands(self):
        self.assertIs(True, self.asked((((0, 0, 3, 2, 0, 6), (0, 0, 0, 0)),)))
        for room in ((0, 0, 4, 2, 0, 6), (0, 0, 3, 3, 0, 6), (0, 0, 3, 2, 0, 7), (-1, 0, 3, 2, 0, 6),
                     (0, -1, 3, 2, 0, 6), (0, 0, 3, 2, -1, 6), (3, 0, 2, 2, 0, 6), (0, 2, 3, 1, 0, 6),
                     (0, 0, 3, 2, 6, 5)):
            self.assertIs(False, self.asked(((room, (0, 0, 0, 0)),)), room)
        self.assertIs(True, is_winds(Land(5, 4, day=7), (((0, 0, 4, 3, 0, 7), (0, 0, 0, 0)),)))

    def test_each_row_is_asked(self):
        for at in range(8):
            rows = tuple((ROOM, (1, 0, 0, 0)) if k == at else ROW for k in range(8))
            self.assertIs(False, self.asked(rows))

    def test_spoiled(self):
        for thing in spoiled((ROW, ROW), free=((),)):
            if thing != () or isinstance(thing, list):
                self.assertIs(False, self.asked(thing), thing)

    def test_anything(self):
        for thing in (*ANYTHING, deep(30), ROW, [ROW], (list(ROW),), {0: ROW}):
            self.assertIs(repr(thing) == "()", self.asked(thing))

    def test_by_names(self):
        self.assertIs(True, is_winds(thing=(ROW,), land=LAND))


class WindsAt(unittest.TestCase):
    def test_just_calm_where_none_has_it(self):
        told_so(self, "none", ((0, 0),), winds_at((), 0, 0, 0))
        told_so(self, "off", ((0, 0),), winds_at((ROW,), 0, 0, 3))
        told_so(self, "far off", ((0, 0),), winds_at((ROW,), -40, 10 ** 39, 3))

    def test_squares_and_beats_of_a_room(self):
        for x in range(-1, 5):
            for y in range(-1, 4):
                for beat in range(7):
                    inside = x in (1, 2) and y in (0, 1) and beat in (3, 4, 5)
                    wanted = ((1, -2),) if inside else ((0, 0),)
                    self.assertEqual(wanted, winds_at(((ROOM, (1, 1, -2, -2)),), x, y, beat))

    def test_rising_and_all(self):
        wanted = ((-1, 0), (-1, 1), (-1, 2), (0, 0), (0, 1), (0, 2), (1, 0), (1, 1), (1, 2))
        told_so(self, "nine", wanted, unchanged(self, winds_at, (ROW,), 1, 0, 3))
        for bounds in ((-2, -2, -2, 2), (-2, 2, 1, 1), (-2, 1, -1, 0), (2, 2, 2, 2), (0, 0, 0, 0)):
            told = winds_at(((ROOM, bounds),), 2, 1, 5)
            lx, hx, ly, hy = bounds
            self.assertEqual({(wx, wy) for wx in range(lx, hx + 1) for wy in range(ly, hy + 1)}, set(told))
            self.assertEqual(tuple(sorted(set(told))), told)
            self.assertIsInstance(told, tuple)

    def test_calm_is_not_let_where_a_row_does_not_let_it(self):
        self.assertNotIn((0, 0), winds_at(((ROOM, (1, 2, 0, 0)),), 1, 1, 4))

    def test_the_first_row_that_has_it(self):
        rows = (
            ((0, 0, 0, 2, 2, 4), (1, 1, 1, 1)), ((0, 0, 3, 1, 0, 3), (-1, 0, 2, 2)), ((0, 0, 3, 2, 0, 5), (-2, -2, 0, 0)),
        )
        self.assertEqual(((1, 1),), winds_at(rows, 0, 0, 2))
        self.assertEqual(((-1, 2), (0, 2)), winds_at(rows, 0, 0, 1))
        self.assertEqual(((-1, 2), (0, 2)), winds_at(rows, 3, 1, 3))
        self.assertEqual(((-2, 0),), winds_at(rows, 3, 1, 4))
        self.assertEqual(((-2, 0),), winds_at(rows, 1, 2, 0))
        self.assertEqual(((1, 1),), winds_at(rows, 0, 2, 4))
        self.assertEqual(((0, 0),), winds_at(rows, 0, 2, 6))
        self.assertEqual(((-1, 2), (0, 2)), winds_at(rows[1:] + rows[:1], 0, 0, 2))

    def test_the_last_of_eight_rows(self):
        rows = tuple(((0, 0, 0, 0, k, k), (0, 0, 0, 0)) for k in range(7)) + (((0, 0, 3, 2, 0, 6), (2, 2, 2, 2)),)
        self.assertEqual(((2, 2),), winds_at(rows, 1, 1, 6))
        self.assertEqual(((0, 0),), winds_at(rows, 0, 0, 6))

    def test_by_names(self):
        self.assertEqual(((0, 0),), winds_at(beat=0, y=0, x=0, winds=(ROW,)))


class IsWeather(unittest.TestCase):
    def asked(self, thing, winds=(ROW,)):
        return unchanged(self, is_weather, LAND, winds, thing)

    def test_none_and_one(self):
        self.assertIs(True, self.asked(()))
        self.assertIs(True, self.asked((((1, 0, 3), (-1, 2)),)))
        self.assertIs(True, self.asked((((0, 0, 3), (0, 0)),)))

    def test_winds_that_may_not_be_there(self):
        for wx in range(-3, 4):
            for wy in range(-3, 4):
                let = wx in (-1, 0, 1) and wy in (0, 1, 2)
                self.assertIs(let, self.asked((((2, 1, 5), (wx, wy)),)))
                self.assertIs((wx, wy) == (0, 0), self.asked((((3, 1, 5), (wx, wy)),)))
                self.assertIs((wx, wy) == (0, 0), self.asked((((2, 1, 2), (wx, wy)),)))

    def test_calm_where_it_may_not_be(self):
        self.assertIs(False, self.asked((((1, 1, 3), (0, 0)),), ((ROOM, (1, 1, 0, 0)),)))

    def test_squares_of_the_land_and_beats_below_day(self):
        for x in range(-1, 6):
            for y in range(-1, 5):
                for beat in range(-1, 9):
                    right = 0 <= x <= 3 and 0 <= y <= 2 and 0 <= beat <= 5
                    self.assertIs(right, self.asked((((x, y, beat), (0, 0)),), ()), (x, y, beat))

    def test_rising(self):
        places = [(0, 0, 0), (0, 0, 1), (0, 1, 0), (1, 0, 0), (3, 2, 5)]
        rows = tuple((place, (0, 0)) for place in places)
        self.assertIs(True, self.asked(rows))
        for one in range(5):
            for other in range(5):
                self.assertIs(one < other, self.asked((rows[one], rows[other])))
        self.assertIs(False, self.asked(rows[:3] + (rows[4], rows[3])))
        self.assertIs(False, self.asked((rows[1], rows[0]) + rows[2:]))

    def test_the_same_square_and_beat_twice(self):
        self.assertIs(False, self.asked((((1, 0, 3), (0, 0)), ((1, 0, 3), (0, 0)))))
        self.assertIs(False, self.asked((((1, 0, 3), (0, 0)), ((1, 0, 3), (0, 1)))))
        self.assertIs(False, self.asked((((0, 0, 0), (0, 0)), ((1, 0, 3), (-1, 0)), ((1, 0, 3), (0, 1)))))

    def test_every_square_and_beat_of_the_greatest_land(self):
        land = Land(12, 12, day=24)
        whole = tuple(((x, y, beat), (0, 0)) for x in range(12) for y in range(12) for beat in range(24))
        self.assertIs(True, is_weather(land, (), whole))
        self.assertIs(False, is_weather(land, (), whole + (((11, 11, 24), (0, 0)),)))
        self.assertIs(False, is_weather(land, (), whole + (whole[-1],)))

    def test_spoiled(self):
        for thing in spoiled((((1, 0, 3), (1, 1)), ((2, 1, 4), (0, 0))), free=((),)):
            self.assertIs(False, self.asked(thing), thing)

    def test_anything(self):
        for thing in (*ANYTHING, deep(30), ((1, 0, 3), (0, 0)), [((1, 0, 3), (0, 0))], {(1, 0, 3): (0, 0)}):
            self.assertIs(repr(thing) == "()", self.asked(thing))

    def test_by_names(self):
        self.assertIs(True, is_weather(thing=(((1, 0, 3), (-1, 2)),), winds=(ROW,), land=LAND))


class WindBy(unittest.TestCase):
    WEATHER = (((0, 0, 0), (0, 0)), ((1, 0, 3), (1, 1)), ((1, 0, 4), (0, 2)), ((2, 1, 3), (-1, 1)))

    def test_what_the_weather_tells(self):
        for (x, y, beat), wind in self.WEATHER:
            told_so(self, (x, y, beat), wind, unchanged(self, wind_by, (ROW,), self.WEATHER, x, y, beat))

    def test_else_the_least_that_may_be(self):
        self.assertEqual((-1, 0), wind_by((ROW,), self.WEATHER, 1, 0, 5))
        self.assertEqual((-1, 0), wind_by((ROW,), self.WEATHER, 1, 1, 3))
        self.assertEqual((-1, 0), wind_by((ROW,), (), 1, 0, 3))
        self.assertEqual((0, 0), wind_by((ROW,), self.WEATHER, 1, 0, 2))
        self.assertEqual((0, 0), wind_by((ROW,), self.WEATHER, 3, 0, 3))
        self.assertEqual((1, -2), wind_by(((ROOM, (1, 2, -2, 1)),), (), 2, 0, 3))
        self.assertEqual((0, 0), wind_by((), (), 0, 0, 0))

    def test_by_names(self):
        self.assertEqual((0, 2), wind_by(beat=4, y=0, x=1, weather=self.WEATHER, winds=(ROW,)))
