import inspect
import random
import unittest

from tests.helping import a_case, beat_again, told_so, unchanged
from windfleet.beats import beat_done, row_at, wish_of
from windfleet.lands import Land
from windfleet.winds import winds_at

PADS = ((0, 0, 1, 1, 2), (4, 2, 6, 4, 1), (9, 9, 9, 9, 1))
LAND = Land(12, 12, day=8, pads=PADS)
WAY = (("go", 1, 0), ("aim", 3, 3), ("stand",))


def flight(flyer=(2, 9, 50, 3), state=(5, 5, 0, 20), way=(), task=None, home=0):
    return flyer, state, way, task, home


class RowAt(unittest.TestCase):
    def test_rows_one_by_one_then_home(self):
        for since in range(9):
            told = tuple(unchanged(self, row_at, flight(way=WAY), since, beat) for beat in range(since, 9))
            told_so(self, since, (WAY + (("home",),) * 8)[:9 - since], told)

    def test_no_way_is_home(self):
        self.assertEqual(("home",), row_at(flight(), 0, 0))
        self.assertEqual(("home",), row_at(flight(), 5, 8))

    def test_from_the_turn_on_home(self):
        for since in (0, 2):
            for turn in range(since, 9):
                for beat in range(since, 9):
                    wanted = (WAY + (("home",),) * 8)[beat - since] if beat < turn else ("home",)
                    self.assertEqual(wanted, unchanged(self, row_at, flight(way=WAY), since, beat, turn=turn))

    def test_turn_none_is_no_turn(self):
        for beat in range(9):
            self.assertEqual(row_at(flight(way=WAY), 0, beat), row_at(flight(way=WAY), 0, beat, turn=None))

    def test_a_way_of_twenty_four_rows(self):
        way = tuple(("go", k % 5 - 2, k % 3 - 1) for k in range(24))
        for beat in range(24):
            self.assertEqual(way[beat], row_at(flight(way=way), 0, beat))
        self.assertEqual(("home",), row_at(flight(way=way), 0, 24))

    def test_turn_goes_by_its_name_alone(self):
        self.assertEqual(inspect.Parameter.KEYWORD_ONLY, inspect.signature(row_at).parameters["turn"].kind)
        with self.assertRaises(TypeError):
            row_at(flight(way=WAY), 0, 0, 0)
        self.assertEqual(("aim", 3, 3), row_at(turn=4, beat=1, since=0, flight=flight(way=WAY)))


class WishOf(unittest.TestCase):
    def asked(self, reach, row, x, y, home=0, land=LAND):
        return unchanged(self, wish_of, land, flight(flyer=(reach, 9, 50, 3), home=home), row, x, y)

    def test_go_cut_to_reach(self):
        for reach in range(3):
            for dx in range(-2, 3):
                for dy in range(-2, 3):
                    wanted = (max(-reach, min(reach, dx)), max(-reach, min(reach, dy)))
                    told_so(self, (reach, dx, dy), wanted, self.asked(reach, ("go", dx, dy), 7, 1))
        self.assertEqual((-1, 1), self.asked(1, ("go", -2, 2), 0, 0))
        self.assertEqual((0, 0), self.asked(0, ("go", -2, 2), 0, 0))

    def test_aim_goes_to_its_square(self):
        self.assertEqual((2, -2), self.asked(2, ("aim", 9, 0), 3, 8))
        self.assertEqual((-2, 2), self.asked(2, ("aim", 0, 9), 3, 1))
        self.assertEqual((1, -1), self.asked(2, ("aim", 4, 7), 3, 8))
        self.assertEqual((-1, 0), self.asked(1, ("aim", 0, 8), 3, 8))
        self.assertEqual((0, 0), self.asked(2, ("aim", 3, 8), 3, 8))
        self.assertEqual((0, 0), self.asked(0, ("aim", 0, 0), 3, 8))
        self.assertEqual((2, 2), self.asked(2, ("aim", 11, 11), 9, 9))

    def test_home_goes_to_the_middle_of_the_home_pad(self):
        # Of two squares to a side the lesser one is the middle.
        for home, (mx, my) in enumerate(((0, 0), (5, 3), (9, 9))):
            for reach in range(3):
                for x in range(10):
                    for y in range(10):
                        wanted = (max(-reach, min(reach, mx - x)), max(-reach, min(reach, my - y)))
                        self.assertEqual(wanted, self.asked(reach, ("home",), x, y, home))

    def test_middle_of_even_and_odd_pads(self):
        for box, middle in (((1, 1, 4, 3), (2, 2)), ((3, 0, 4, 0), (3, 0)), ((2, 5, 2, 6), (2, 5)), ((0, 0, 9, 9), (4, 4))):
            land = Land(10, 10, pads=((*box, 1),))
            mx, my = middle
            for x in (mx - 1, mx, mx + 1):
                for y in (my - 1, my, my + 1):
                    self.assertEqual((mx - x, my - y), self.asked(1, ("home",), x, y, 0, land))

    def test_by_names(self):
        self.assertEqual((1, 0), wish_of(y=0, x=0, row=("go", 1, 0), flight=flight(), land=LAND))


class Standing(unittest.TestCase):
    def test_stand_over_any_pad_gains(self):
        for home in range(3):
            for x, y in ((0, 0), (1, 1), (4, 2), (6, 4), (9, 9)):
                told = unchanged(self, beat_done, LAND, flight(home=home), ("stand",), 0, (x, y, 0, 20), (0, 0))
                told_so(self, (x, y), ((x, y, 0, 23), None), told)

    def test_gain_at_most_full(self):
        for charge, wanted in ((0, 9), (40, 49), (41, 50), (42, 50), (49, 50), (50, 50)):
            told = beat_done(LAND, flight(flyer=(2, 9, 50, 9)), ("stand",), 0, (0, 0, 0, charge), (0, 0))
            self.assertEqual(((0, 0, 0, wanted), None), told)

    def test_no_wind_moves_what_stands(self):
        for wind in ((-2, -2), (0, 1), (2, 2)):
            for row in (("stand",), ("home",)):
                told = beat_done(LAND, flight(), row, 0, (1, 1, 0, 20), wind)
                self.assertEqual(((1, 1, 0, 23), None), told)

    def test_stand_without_a_pad_breaks(self):
        told = unchanged(self, beat_done, LAND, flight(), ("stand",), 0, (2, 1, 0, 20), (0, 0))
        told_so(self, "nopad", (None, "nopad"), told)
        for x, y in ((2, 2), (3, 2), (7, 4), (4, 5), (8, 9)):
            self.assertEqual((None, "nopad"), beat_done(LAND, flight(), ("stand",), 0, (x, y, 0, 0), (0, 0)))

    def test_nopad_ahead_of_what_hurts(self):
        land = Land(10, 10, pads=PADS, barred=((5, 5, 5, 5, 0, 12),))
        self.assertEqual((None, "nopad"), beat_done(land, flight(), ("stand",), 0, (5, 5, 0, 20), (0, 0)))

    def test_home_over_its_own_pad_stands(self):
        for x, y in ((0, 0), (1, 0), (0, 1), (1, 1)):
            self.assertEqual(((x, y, 0, 23), None), beat_done(LAND, flight(), ("home",), 0, (x, y, 0, 20), (1, 1)))

    def test_home_over_another_pad_flies(self):
        self.assertEqual(((3, 2, 0, 15), None), beat_done(LAND, flight(), ("home",), 0, (5, 4, 0, 20), (0, 0)))

    def test_home_off_its_pad_flies(self):
        self.assertEqual(((0, 1, 0, 15), None), beat_done(LAND, flight(), ("home",), 0, (2, 1, 0, 20), (0, 1)))

    def test_what_it_bears_costs_nothing(self):
        bring = ("bring", (5, 5, 5, 5), (6, 6, 6, 6), 9, 0, 8)
        told = beat_done(LAND, flight(task=bring), ("stand",), 0, (0, 0, 1, 0), (0, 0))
        self.assertEqual(((0, 0, 1, 3), None), told)

    def test_where_it_hurts_at_the_next_beat(self):
        land = Land(10, 10, pads=PADS, barred=((0, 0, 0, 0, 3, 3),), people=((2, 2, 2, 2, 5, 5),))
        for row in (("stand",), ("home",)):
            self.assertEqual((None, "barred"), beat_done(land, flight(), row, 2, (0, 0, 0, 20), (0, 0)))
            self.assertEqual(((0, 0, 0, 23), None), beat_done(land, flight(), row, 3, (0, 0, 0, 20), (0, 0)))
            self.assertEqual(((1, 0, 0, 23), None), beat_done(land, flight(), row, 2, (1, 0, 0, 20), (0, 0)))
            self.assertEqual((None, "people"), beat_done(land, flight(), row, 4, (1, 1, 0, 20), (0, 0)))
            self.assertEqual(((1, 1, 0, 23), None), beat_done(land, flight(), row, 5, (1, 1, 0, 20), (0, 0)))
        high = Land(1, 1, heights=((4,),), pads=((0, 0, 0, 0, 1),))
        self.assertEqual((None, "high"), beat_done(high, flight((2, 3, 50, 3)), ("stand",), 0, (0, 0, 0, 1), (0, 0)))
        self.assertEqual(((0, 0, 0, 4), None), beat_done(high, flight((2, 4, 50, 3)), ("stand",), 0, (0, 0, 0, 1), (0, 0)))

    def test_its_step_becomes_at_the_next_beat(self):
        look = ("look", (0, 0, 0, 0), 3, 3)
        for beat, step in ((1, 0), (2, 1), (3, 0)):
            told = beat_done(LAND, flight(task=look), ("stand",), beat, (0, 0, 0, 20), (0, 0))
            self.assertEqual(((0, 0, step, 23), None), told)


class Flying(unittest.TestCase):
    def asked(self, row, wind, charge=20, **made):
        return unchanged(self, beat_done, LAND, flight(**made), row, 0, (5, 6, 0, charge), wind)

    def test_square_with_wish_and_wind_and_its_cost(self):
        for dx in range(-2, 3):
            for dy in range(-2, 3):
                for wx in range(-2, 3):
                    for wy in range(-2, 3):
                        against = (dx > 0 > wx or dx < 0 < wx) + (dy > 0 > wy or dy < 0 < wy)
                        wanted = (5 + dx + wx, 6 + dy + wy, 0, 20 - 1 - abs(dx) - abs(dy) - int(against))
                        told_so(self, (dx, dy, wx, wy), (wanted, None), self.asked(("go", dx, dy), (wx, wy)))

    def test_each_part_of_the_cost(self):
        self.assertEqual(((5, 6, 0, 19), None), self.asked(("go", 0, 0), (0, 0)))
        self.assertEqual(((7, 6, 0, 17), None), self.asked(("go", 2, 0), (0, 0)))
        self.assertEqual(((3, 5, 0, 16), None), self.asked(("go", -2, -1), (0, 0)))
        self.assertEqual(((6, 6, 0, 16), None), self.asked(("go", 2, 0), (-1, 0)))
        self.assertEqual(((5, 7, 0, 17), None), self.asked(("go", 0, -1), (0, 2)))
        self.assertEqual(((7, 4, 0, 19), None), self.asked(("go", 0, 0), (2, -2)))
        self.assertEqual(((5, 6, 0, 15), None), self.asked(("go", 1, -1), (-1, 1)))
        self.assertEqual(((9, 6, 0, 17), None), self.asked(("go", 2, 0), (2, 0)))

    def test_the_cut_wish_is_paid_and_flown(self):
        self.assertEqual(((6, 5, 0, 17), None), self.asked(("go", 2, -2), (0, 0), flyer=(1, 9, 50, 3)))
        self.assertEqual(((4, 6, 0, 19), None), self.asked(("go", 2, -2), (-1, 0), flyer=(0, 9, 50, 3)))

    def test_aim_and_home_fly_by_their_wishes(self):
        self.assertEqual(((7, 5, 0, 16), None), self.asked(("aim", 9, 5), (0, 0)))
        self.assertEqual(((5, 6, 0, 19), None), self.asked(("aim", 5, 6), (0, 0)))
        self.assertEqual(((3, 4, 0, 15), None), self.asked(("home",), (0, 0)))
        self.assertEqual(((5, 4, 0, 17), None), self.asked(("home",), (0, 0), home=1))

    def test_charge_may_be_above_what_a_gain_would_give(self):
        self.assertEqual(((5, 6, 0, 49), None), self.asked(("go", 0, 0), (0, 0), charge=50))

    def test_just_enough_charge_and_one_less(self):
        self.assertEqual(((5, 6, 0, 0), None), self.asked(("go", 1, -1), (-1, 1), charge=5))
        told_so(self, "empty", (None, "empty"), self.asked(("go", 1, -1), (-1, 1), charge=4))
        self.assertEqual(((5, 6, 0, 0), None), self.asked(("go", 0, 0), (0, 0), charge=1))
        self.assertEqual((None, "empty"), self.asked(("go", 0, 0), (0, 0), charge=0))

    def test_the_load_of_the_step_ahead(self):
        bring = ("bring", (5, 6, 5, 6), (5, 6, 6, 6), 4, 1, 8)
        for step, wanted in ((0, (5, 6, 1, 19)), (1, (5, 6, 2, 15)), (2, (5, 6, 2, 19))):
            told = beat_done(LAND, flight(task=bring), ("go", 0, 0), 0, (5, 6, step, 20), (0, 0))
            self.assertEqual((wanted, None), told)
        self.assertEqual(((5, 6, 2, 0), None), beat_done(LAND, flight(task=bring), ("go", 0, 0), 0, (5, 6, 1, 5), (0, 0)))
        self.assertEqual((None, "empty"), beat_done(LAND, flight(task=bring), ("go", 0, 0), 0, (5, 6, 1, 4), (0, 0)))

    def test_the_step_becomes_at_the_new_square_and_beat(self):
        look = ("look", (6, 6, 6, 6), 3, 4)
        for beat, step in ((1, 0), (2, 1), (3, 1), (4, 0)):
            told = beat_done(LAND, flight(task=look), ("go", 1, 0), beat, (5, 6, 0, 20), (0, 0))
            self.assertEqual(((6, 6, step, 18), None), told)
            told = beat_done(LAND, flight(task=look), ("go", 1, 0), beat, (6, 6, 0, 20), (0, 0))
            self.assertEqual(((7, 6, 0, 18), None), told)
        over = ("over", (6, 6, 6, 6), 3, 0, 8)
        self.assertEqual((6, 6, 2, 18), beat_done(LAND, flight(task=over), ("go", 1, 0), 0, (5, 6, 1, 20), (0, 0))[0])
        self.assertEqual((7, 6, 0, 18), beat_done(LAND, flight(task=over), ("go", 1, 0), 0, (6, 6, 2, 20), (0, 0))[0])


class Breaking(unittest.TestCase):
    LAND = Land(
        5, 5, heights=((0, 0, 0, 0, 0), (0, 0, 0, 7, 0), (0, 0, 0, 0, 0), (0, 0, 0, 0, 0), (0, 0, 0, 0, 0)),
        barred=((3, 2, 3, 2, 4, 5),), people=((4, 4, 4, 4, 4, 5),), pads=((0, 0, 0, 0, 1),),
    )

    def asked(self, x, y, row, beat=3, charge=20, wind=(0, 0)):
        return unchanged(self, beat_done, self.LAND, flight((2, 6, 50, 3)), row, beat, (x, y, 0, charge), wind)

    def test_out_on_each_side(self):
        told_so(self, "out", (None, "out"), self.asked(0, 2, ("go", -1, 0)))
        self.assertEqual((None, "out"), self.asked(4, 2, ("go", 1, 0)))
        self.assertEqual((None, "out"), self.asked(2, 0, ("go", 0, -1)))
        self.assertEqual((None, "out"), self.asked(2, 4, ("go", 0, 1)))
        self.assertEqual((None, "out"), self.asked(1, 2, ("go", 0, 0), wind=(-2, 0)))
        self.assertEqual(((0, 2, 0, 16), None), self.asked(1, 2, ("go", 1, 0), wind=(-2, 0), charge=19))

    def test_high_barred_people(self):
        self.assertEqual((None, "high"), self.asked(2, 1, ("go", 1, 0)))
        self.assertEqual((None, "barred"), self.asked(2, 2, ("go", 1, 0)))
        self.assertEqual((None, "people"), self.asked(2, 3, ("go", 1, 0)))

    def test_at_the_next_beat(self):
        for beat, broken in ((2, False), (3, True), (4, True), (5, False)):
            self.assertEqual("barred" if broken else None, self.asked(2, 2, ("go", 1, 0), beat)[1])
            self.assertEqual("people" if broken else None, self.asked(2, 3, ("go", 1, 0), beat)[1])

    def test_the_square_ahead_is_not_asked(self):
        self.assertEqual(((2, 2, 0, 18), None), self.asked(3, 2, ("go", -1, 0), 4))

    def test_empty_ahead_of_all_that_hurts(self):
        for x, y, row, word in ((0, 2, ("go", -1, 0), "out"), (2, 1, ("go", 1, 0), "high"),
                                (2, 2, ("go", 1, 0), "barred"), (2, 3, ("go", 1, 0), "people")):
            self.assertEqual((None, "empty"), self.asked(x, y, row, charge=1))
            self.assertEqual((None, word), self.asked(x, y, row, charge=2))

    def test_by_names(self):
        told = beat_done(wind=(0, 0), state=(2, 2, 0, 9), beat=0, row=("go", 0, 1), flight=flight(), land=self.LAND)
        self.assertEqual(((2, 3, 0, 7), None), told)


class Again(unittest.TestCase):
    def test_many_beats_held_against_a_second_telling(self):
        words = {}
        for seed in range(400):
            land, winds, made = a_case(random.Random(seed))
            flyer, (x, y, step, charge), way, task, home = made
            for beat in range(land.day):
                for row in (row_at(made, 0, beat), ("home",), ("stand",), ("go", 1, -1)):
                    for wind in winds_at(winds, x, y, beat):
                        wanted = beat_again(land, made, row, beat, made[1], wind)
                        told_so(self, seed, wanted, beat_done(land, made, row, beat, made[1], wind))
                        words[wanted[1]] = True
        self.assertEqual({None, "nopad", "empty", "out", "high", "barred", "people"}, set(words))
