import inspect
import unittest

from tests.helping import ANYTHING, deep, spoiled, unchanged
from windfleet.bounds import DAY
from windfleet.errors import FleetError, NoLand
from windfleet.lands import Land, is_box, is_room

FIELDS = ("wide", "high", "day", "heights", "barred", "people", "pads")
ROOM = (1, 0, 2, 1, 3, 5)
RIGHT = {
    "wide": 4, "high": 3, "day": 6, "heights": ((0, 1, 2, 3), (4, 5, 6, 7), (8, 9, 0, 1)), "barred": (ROOM,),
    "people": ((0, 0, 3, 2, 0, 6),), "pads": ((0, 0, 1, 0, 1), (3, 1, 3, 2, 4)),
}
WRONG = {
    "wide": 0, "high": 13, "day": 25, "heights": (), "barred": (ROOM[:5],), "people": ((0, 0, 4, 0, 0, 0),),
    "pads": ((0, 0, 0, 0, 5),),
}
WHOLES = {"wide": (1, 12), "high": (1, 12), "day": (1, 24)}


def made(**fields):
    rest = dict(fields)
    return Land(rest.pop("wide", 4), rest.pop("high", 3), **rest)


def refused(test, field, **fields):
    with test.assertRaises(NoLand) as caught:
        made(**fields)
    test.assertEqual(field, caught.exception.name, fields)


class Making(unittest.TestCase):
    def test_fields_are_as_handed_in(self):
        land = Land(4, 3, **{name: RIGHT[name] for name in FIELDS[2:]})
        for name in FIELDS:
            self.assertIs(RIGHT[name], getattr(land, name), name)

    def test_arguments_by_name_in_any_order(self):
        land = Land(**{name: RIGHT[name] for name in reversed(FIELDS)})
        for name in FIELDS:
            self.assertIs(RIGHT[name], getattr(land, name), name)

    def test_what_is_left_out(self):
        land = Land(2, 5)
        told = [getattr(land, name) for name in FIELDS]
        self.assertEqual(repr([2, 5, DAY, None, (), (), ()]), repr(told))

    def test_only_wide_and_high_go_by_their_places(self):
        with self.assertRaises(TypeError):
            Land(4, 3, 6)
        with self.assertRaises(TypeError):
            Land(4)

    def test_each_number_from_its_least_to_its_greatest(self):
        for name, (least, greatest) in WHOLES.items():
            for worth in range(least, greatest + 1):
                self.assertEqual(worth, getattr(made(**{name: worth}), name))
            for worth in (least - 1, greatest + 1, -1, -least, 10 ** 39, -(10 ** 39)):
                refused(self, name, **{name: worth})

    def test_each_number_of_another_kind(self):
        for name in WHOLES:
            for thing in (True, False, None, "4", "", (4,), [4], (), [], {}, {4: 4}, deep(30)):
                refused(self, name, **{name: thing})

    def test_refusal_is_a_fleet_error(self):
        with self.assertRaises(FleetError):
            Land(0, 1)

    def test_the_first_wrong_field_is_named(self):
        for at, name in enumerate(FIELDS):
            for later in FIELDS[at + 1:]:
                refused(self, name, **{name: WRONG[name], later: WRONG[later]})
            refused(self, name, **{other: WRONG[other] for other in FIELDS[at:]})

    def test_anything_for_a_field(self):
        for name in FIELDS:
            for thing in ANYTHING + (deep(30),):
                if name in WHOLES and repr(thing) == "1":
                    continue
                if (name, thing) == ("heights", None) or (name in FIELDS[4:] and repr(thing) == "()"):
                    continue
                refused(self, name, **{name: thing})

    def test_nothing_handed_in_is_changed(self):
        heights = [[0, 0], [0, 0]]
        refused(self, "heights", wide=2, high=2, heights=heights)
        self.assertEqual([[0, 0], [0, 0]], heights)
        rooms = [list(ROOM)]
        refused(self, "people", people=rooms)
        self.assertEqual([list(ROOM)], rooms)


class Heights(unittest.TestCase):
    def test_from_nought_to_nine(self):
        for worth in range(10):
            self.assertEqual(((worth,),), Land(1, 1, heights=((worth,),)).heights)
        for worth in (-1, 10):
            refused(self, "heights", wide=1, high=1, heights=((worth,),))

    def test_rows_as_high_and_as_wide_as_the_land(self):
        self.assertEqual(((1, 2, 3), (4, 5, 6)), Land(3, 2, heights=((1, 2, 3), (4, 5, 6))).heights)
        refused(self, "heights", wide=2, high=3, heights=((1, 2, 3), (4, 5, 6)))
        refused(self, "heights", wide=3, high=2, heights=((1, 2, 3), (4, 5)))
        refused(self, "heights", wide=3, high=2, heights=((1, 2, 3), (4, 5, 6, 7)))

    def test_spoiled(self):
        for thing in spoiled(RIGHT["heights"]):
            if thing is not None:
                refused(self, "heights", heights=thing)


class Rooms(unittest.TestCase):
    def test_none_to_eight(self):
        for name in ("barred", "people"):
            for many in range(9):
                self.assertEqual((ROOM,) * many, getattr(made(**{name: (ROOM,) * many}), name))
            refused(self, name, **{name: (ROOM,) * 9})

    def test_each_of_them_is_asked(self):
        for name in ("barred", "people"):
            for at in range(8):
                rooms = tuple((0, 0, 4, 0, 0, 0) if k == at else ROOM for k in range(8))
                refused(self, name, **{name: rooms})

    def test_turned_about_or_off_the_land(self):
        wrongs = ((2, 0, 1, 1, 3, 5), (1, 1, 2, 0, 3, 5), (1, 0, 2, 1, 5, 3), (0, 0, 4, 0, 0, 0), (0, 0, 0, 3, 0, 0),
                  (-1, 0, 0, 0, 0, 0), (0, -1, 0, 0, 0, 0), (0, 0, 0, 0, -1, 0), (0, 0, 0, 0, 0, 7))
        for name in ("barred", "people"):
            for room in wrongs:
                refused(self, name, day=6, **{name: (room,)})

    def test_spoiled(self):
        for name in ("barred", "people"):
            for thing in spoiled((ROOM,), free=((),)):
                refused(self, name, **{name: thing})

    def test_the_last_beat_is_that_of_its_own_day(self):
        self.assertEqual(((0, 0, 0, 0, 0, 24),), made(day=24, barred=((0, 0, 0, 0, 0, 24),)).barred)
        refused(self, "barred", barred=((0, 0, 0, 0, 0, 13),))
        self.assertEqual(((0, 0, 0, 0, 0, 12),), made(barred=((0, 0, 0, 0, 0, 12),)).barred)


class Pads(unittest.TestCase):
    def test_none_to_four(self):
        pads = tuple((x, 0, x, 2, 1) for x in range(4))
        for many in range(5):
            self.assertEqual(pads[:many], made(pads=pads[:many]).pads)
        refused(self, "pads", wide=5, pads=tuple((x, 0, x, 2, 1) for x in range(5)))

    def test_room_for_one_to_four(self):
        for many in range(1, 5):
            self.assertEqual(((0, 0, 3, 2, many),), made(pads=((0, 0, 3, 2, many),)).pads)
        for many in (-1, 0, 5):
            refused(self, "pads", pads=((0, 0, 3, 2, many),))

    def test_box_turned_about_or_off_the_land(self):
        wrongs = ((1, 0, 0, 0), (0, 1, 0, 0), (0, 0, 4, 0), (0, 0, 0, 3), (-1, 0, 0, 0), (0, -1, 0, 0))
        for box in wrongs:
            refused(self, "pads", pads=((*box, 1),))
            refused(self, "pads", pads=((3, 2, 3, 2, 1), (*box, 1)))

    def test_two_that_share_a_square(self):
        first = (1, 1, 2, 2, 1)
        for x in range(5):
            for y in range(5):
                for wide in range(2):
                    for high in range(2):
                        if x + wide > 4 or y + high > 4:
                            continue
                        other = (x, y, x + wide, y + high, 2)
                        shared = any(1 <= u <= 2 and 1 <= v <= 2 for u in (x, x + wide) for v in (y, y + high))
                        for pads in ((first, other), (other, first), (first, (4, 4, 4, 4, 1), other)):
                            if shared or (len(pads) == 3 and x + wide == 4 and y + high == 4):
                                refused(self, "pads", wide=5, high=5, pads=pads)
                            else:
                                self.assertEqual(pads, made(wide=5, high=5, pads=pads).pads)

    def test_one_over_the_other_like_a_cross_or_within(self):
        refused(self, "pads", wide=5, high=5, pads=((0, 2, 4, 2, 1), (2, 0, 2, 4, 1)))
        refused(self, "pads", wide=5, high=5, pads=((0, 0, 4, 4, 1), (2, 2, 2, 2, 1)))
        refused(self, "pads", wide=5, high=5, pads=((2, 2, 2, 2, 1), (0, 0, 4, 4, 1)))
        refused(self, "pads", pads=((0, 0, 0, 0, 1), (0, 0, 0, 0, 1)))

    def test_spoiled(self):
        for thing in spoiled(((0, 0, 1, 1, 2),), free=((),)):
            refused(self, "pads", pads=thing)


class Squares(unittest.TestCase):
    def test_len(self):
        for wide in (1, 2, 11, 12):
            for high in (1, 3, 12):
                self.assertEqual(wide * high, len(Land(wide, high)))

    def test_equal_fields_equal_lands(self):
        one = made(**RIGHT)
        other = made(**{name: eval(repr(RIGHT[name])) for name in FIELDS})
        self.assertTrue(one == other)
        self.assertFalse(one != other)
        self.assertTrue(one == one)

    def test_one_field_unlike(self):
        changes = {
            "wide": 5, "high": 4, "day": 7, "heights": None, "barred": (), "people": (), "pads": RIGHT["pads"][::-1],
        }
        plain = {name: () if name in FIELDS[4:] else RIGHT[name] for name in FIELDS if name != "heights"}
        for name in FIELDS:
            base = plain if name in ("wide", "high") else RIGHT
            self.assertFalse(made(**base) == made(**{**base, name: changes[name]}), name)
            self.assertTrue(made(**base) != made(**{**base, name: changes[name]}), name)

    def test_heights_none_beside_all_nought(self):
        self.assertFalse(Land(2, 1) == Land(2, 1, heights=((0, 0),)))
        self.assertTrue(Land(2, 1) != Land(2, 1, heights=((0, 0),)))

    def test_day_left_out_equals_the_day_told(self):
        self.assertTrue(Land(2, 1) == Land(2, 1, day=12))

    def test_things_that_are_no_land(self):
        land = Land(2, 1)
        for thing in (*ANYTHING, (2, 1, 12, None, (), (), ()), object(), Land):
            self.assertFalse(land == thing)
            self.assertTrue(land != thing)

    def test_methods_stand_in_the_class_itself(self):
        for name in ("__init__", "__len__", "__eq__", "pad_at", "hurts"):
            self.assertIn(name, vars(Land))
        self.assertEqual(["self", "x", "y"], list(inspect.signature(Land.pad_at).parameters))
        self.assertEqual(["self", "x", "y", "beat", "ceiling"], list(inspect.signature(Land.hurts).parameters))

    def test_asking_changes_no_land(self):
        land, same = made(**RIGHT), made(**RIGHT)
        for beat in range(7):
            for x in range(-2, 6):
                for y in range(-2, 5):
                    self.assertEqual(land.hurts(x, y, beat, 4), land.hurts(x, y, beat, 4))
                    self.assertEqual(land.pad_at(x, y), land.pad_at(x, y))
        self.assertEqual(same, land)
        for name in FIELDS:
            self.assertIs(RIGHT[name], getattr(land, name))


class PadAt(unittest.TestCase):
    def test_every_square_on_and_off_the_land(self):
        land = Land(6, 5, pads=((1, 1, 3, 2, 2), (4, 1, 4, 4, 1), (0, 4, 0, 4, 3)))
        squares = {(x, y): 0 for x in (1, 2, 3) for y in (1, 2)}
        squares.update({(4, y): 1 for y in (1, 2, 3, 4)})
        squares[(0, 4)] = 2
        for x in range(-3, 10):
            for y in range(-3, 10):
                self.assertEqual(repr(squares.get((x, y))), repr(land.pad_at(x, y)), (x, y))
        self.assertIsNone(land.pad_at(10 ** 39, -(10 ** 39)))

    def test_by_names(self):
        self.assertEqual(0, Land(3, 2, pads=((2, 0, 2, 0, 1),)).pad_at(y=0, x=2))

    def test_without_pads(self):
        self.assertIsNone(Land(1, 1).pad_at(0, 0))


class Hurts(unittest.TestCase):
    def test_out(self):
        land = Land(3, 2)
        for x in range(-3, 7):
            for y in range(-3, 7):
                on_land = x in (0, 1, 2) and y in (0, 1)
                self.assertEqual(None if on_land else "out", land.hurts(x, y, 0, 9), (x, y))
        self.assertEqual("out", land.hurts(10 ** 39, 0, 0, 9))
        self.assertEqual("out", land.hurts(0, -(10 ** 39), 12, 9))

    def test_high_is_above_the_ceiling(self):
        land = Land(3, 2, heights=((0, 1, 2), (3, 8, 9)))
        for ceiling in range(-2, 12):
            for y, row in enumerate(land.heights):
                for x, height in enumerate(row):
                    self.assertEqual("high" if height > ceiling else None, land.hurts(x, y, 3, ceiling))

    def test_heights_none_are_nought(self):
        self.assertIsNone(Land(1, 1).hurts(0, 0, 0, 0))
        self.assertEqual("high", Land(1, 1).hurts(0, 0, 0, -1))

    def test_barred_within_its_squares_and_beats(self):
        land = Land(6, 6, day=8, barred=((4, 4, 4, 4, 0, 8), (1, 2, 2, 4, 3, 5)))
        for beat in range(9):
            for x in range(6):
                for y in range(6):
                    barred = (x, y) == (4, 4) or (x in (1, 2) and y in (2, 3, 4) and beat in (3, 4, 5))
                    self.assertEqual("barred" if barred else None, land.hurts(x, y, beat, 0), (x, y, beat))

    def test_people_within_and_around(self):
        land = Land(7, 7, day=8, people=((0, 6, 0, 6, 8, 8), (2, 2, 3, 2, 3, 5)))
        for beat in range(9):
            for x in range(7):
                for y in range(7):
                    near = x in (1, 2, 3, 4) and y in (1, 2, 3) and beat in (3, 4, 5)
                    near = near or (x in (0, 1) and y in (5, 6) and beat == 8)
                    self.assertEqual("people" if near else None, land.hurts(x, y, beat, 0), (x, y, beat))

    def test_people_beside_the_lands_end_are_out_beyond_it(self):
        land = Land(2, 2, people=((0, 0, 0, 0, 0, 0),))
        self.assertEqual("out", land.hurts(-1, 0, 0, 0))
        self.assertEqual("people", land.hurts(1, 1, 0, 0))
        self.assertIsNone(land.hurts(1, 1, 1, 0))

    def test_each_word_ahead_of_those_behind_it(self):
        land = Land(2, 1, heights=((5, 5),), barred=((0, 0, 0, 0, 0, 2),), people=((0, 0, 1, 0, 0, 3),))
        self.assertEqual("out", land.hurts(-1, 0, 0, 0))
        self.assertEqual("high", land.hurts(0, 0, 0, 4))
        self.assertEqual("barred", land.hurts(0, 0, 0, 5))
        self.assertEqual("people", land.hurts(0, 0, 3, 5))
        self.assertEqual("high", land.hurts(1, 0, 0, 4))
        self.assertEqual("people", land.hurts(1, 0, 0, 5))
        self.assertIsNone(land.hurts(0, 0, 4, 5))

    def test_every_room_counts(self):
        rooms = tuple((x, 0, x, 0, x, x) for x in range(8))
        land = Land(12, 1, barred=rooms)
        for x in range(8):
            self.assertEqual("barred", land.hurts(x, 0, x, 0))
            self.assertIsNone(land.hurts(x, 0, x + 1, 0))
        land = Land(12, 1, people=rooms)
        for x in range(8):
            self.assertEqual("people", land.hurts(x + 1, 0, x, 0))
            self.assertIsNone(land.hurts(x + 2, 0, x, 0))

    def test_by_names(self):
        land = Land(3, 2, barred=((2, 1, 2, 1, 4, 4),))
        self.assertEqual("barred", land.hurts(ceiling=0, beat=4, y=1, x=2))


class BoxesAndRooms(unittest.TestCase):
    def setUp(self):
        self.land = Land(4, 3, day=6)

    def test_every_box_about_the_land(self):
        for x1 in range(-1, 5):
            for x2 in range(-1, 5):
                for y1 in range(-1, 4):
                    for y2 in range(-1, 4):
                        right = 0 <= x1 <= x2 <= 3 and 0 <= y1 <= y2 <= 2
                        self.assertIs(right, is_box(self.land, (x1, y1, x2, y2)))
                        self.assertIs(right, is_room(self.land, (x1, y1, x2, y2, 0, 6)))

    def test_every_span_of_beats_about_the_day(self):
        for first in range(-1, 9):
            for last in range(-1, 9):
                self.assertIs(0 <= first <= last <= 6, is_room(self.land, (1, 1, 2, 2, first, last)))

    def test_spoiled(self):
        for thing in spoiled((1, 0, 2, 1)):
            self.assertIs(False, is_box(self.land, thing), thing)
        for thing in spoiled(ROOM):
            self.assertIs(False, is_room(self.land, thing), thing)

    def test_anything(self):
        for thing in (*ANYTHING, deep(30), ROOM[:5], ROOM + (0,)):
            self.assertIs(False, unchanged(self, is_box, self.land, thing))
            self.assertIs(False, unchanged(self, is_room, self.land, thing))
        self.assertIs(False, is_box(self.land, ROOM))
        self.assertIs(False, is_room(self.land, ROOM[:4]))

    def test_by_names(self):
        self.assertIs(True, is_box(thing=(0, 0, 3, 2), land=self.land))
        self.assertIs(True, is_room(thing=(0, 0, 3, 2, 0, 6), land=self.land))
