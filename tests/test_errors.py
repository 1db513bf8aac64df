import inspect
import unittest

from windfleet import bounds, errors

PLAIN = ("NoWinds", "NoFlight", "NoNews", "NoFlyer", "NoTask", "NoWeather", "Full", "Over", "Busy")
WITH_FIELD = {
    "NoLand": "name", "NoText": "at", "NotLet": "told", "NoDeed": "at", "Undone": "at", "Taken": "name",
    "Clash": "name", "NotHome": "number",
}
BESIDE = {"NoNumber": "number", "NoBooking": "name"}
THINGS = (
    None, True, False, 0, -1, 7, 10 ** 39, "", "wide", "two words\n", (), (1, (2, None)), [], [1, [2]], {}, {"a": [1]},
    ("flight", 0, 1, ((0, 0),)),
)


def class_of(name):
    return getattr(errors, name)


class Standing(unittest.TestCase):
    def test_fleet_error_stands_straight_under_value_error(self):
        self.assertEqual((ValueError,), errors.FleetError.__bases__)

    def test_all_others_stand_straight_under_the_one_told(self):
        for name in (*PLAIN, *WITH_FIELD):
            self.assertEqual((errors.FleetError,), class_of(name).__bases__, name)
        for name in BESIDE:
            self.assertEqual((KeyError,), class_of(name).__bases__, name)

    def test_none_stands_under_another_one(self):
        names = (*PLAIN, *WITH_FIELD, *BESIDE)
        for name in names:
            for other in names:
                self.assertEqual(name == other, issubclass(class_of(name), class_of(other)), (name, other))

    def test_what_is_a_value_error_and_what_a_key_error(self):
        for name in ("FleetError", *PLAIN, *WITH_FIELD):
            self.assertTrue(issubclass(class_of(name), ValueError), name)
            self.assertFalse(issubclass(class_of(name), LookupError), name)
        for name in BESIDE:
            self.assertFalse(issubclass(class_of(name), ValueError), name)
            self.assertFalse(issubclass(class_of(name), errors.FleetError), name)

    def test_all_are_classes_of_their_names(self):
        for name in ("FleetError", *PLAIN, *WITH_FIELD, *BESIDE):
            self.assertTrue(inspect.isclass(class_of(name)))
            self.assertEqual(name, class_of(name).__name__)


class Making(unittest.TestCase):
    def test_those_made_with_a_text_are_raised_and_caught(self):
        for name in ("FleetError", *PLAIN):
            with self.assertRaises(class_of(name)) as caught:
                raise class_of(name)("a text")
            self.assertEqual("a text", str(caught.exception))

    def test_the_field_is_the_very_thing_by_place_and_by_name(self):
        for name, field in (*WITH_FIELD.items(), *BESIDE.items()):
            for thing in THINGS:
                self.assertIs(thing, getattr(class_of(name)(thing), field), (name, thing))
                self.assertIs(thing, getattr(class_of(name)(**{field: thing}), field), (name, thing))

    def test_the_field_is_there_where_it_is_caught(self):
        for name, field in (*WITH_FIELD.items(), *BESIDE.items()):
            thing = [name]
            with self.assertRaises(class_of(name)) as caught:
                raise class_of(name)(thing)
            self.assertIs(thing, getattr(caught.exception, field))

    def test_what_stands_in_brackets_must_be_handed_in(self):
        for name in (*WITH_FIELD, *BESIDE):
            with self.assertRaises(TypeError):
                class_of(name)()

    def test_two_of_them_share_nothing(self):
        for name, field in (*WITH_FIELD.items(), *BESIDE.items()):
            one, other = class_of(name)(1), class_of(name)(2)
            self.assertEqual((1, 2), (getattr(one, field), getattr(other, field)))


class Bounds(unittest.TestCase):
    def test_day_and_apart(self):
        self.assertEqual("12", repr(bounds.DAY))
        self.assertEqual("1", repr(bounds.APART))
