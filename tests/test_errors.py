"""The refusals: each straight under its class, made of anything, telling its fields."""

import unittest

from bandprint import errors
from tests.samples import odd_things

CLASSES = {
    ValueError: {
        "NoBand": ["field"], "NoPress": ["field"], "NoWork": ["field"], "NoCourse": ["field"],
        "NoRows": ["number"], "NoSign": ["sign"], "NoSide": ["side"], "NoSight": ["number"], "NoLook": ["look"],
        "Lossy": ["press"], "Unread": ["row", "word"], "NoDeed": ["at"], "NoAsk": ["row"],
    },
    KeyError: {"NoPlace": ["place"], "NoChange": ["change"], "NoName": ["name"], "Taken": ["name"]},
    IndexError: {"NoBeat": ["beat"], "Early": ["begin"]},
    LookupError: {"NotOne": ["sign"], "Seen": ["name", "number"], "OtherWork": ["part"]},
    RuntimeError: {"Needed": ["name", "by"], "Full": ["name"]},
    ArithmeticError: {"TooLong": ["beats"], "TooMany": ["many"], "Unfit": ["name"]},
}


class Errors(unittest.TestCase):

    def each(self):
        return [(base, getattr(errors, name), fields)
                for base, names in CLASSES.items() for name, fields in names.items()]

    def test_each_is_straight_under_its_class(self):
        self.assertEqual(len(self.each()), 27)
        for base, error, _ in self.each():
            self.assertEqual(error.__bases__, (base,), error)

    def test_each_is_made_of_anything_and_tells_it(self):
        things = odd_things() + [0, -1, 10 ** 6000, "name", ("a", 0)]
        for _, error, fields in self.each():
            for thing in things:
                told = error(*[thing for _ in fields])
                for field in fields:
                    self.assertIs(getattr(told, field), thing)

    def test_each_is_made_by_places_and_by_names(self):
        for _, error, fields in self.each():
            worths = [f"worth{at}" for at in range(len(fields))]
            by_names = error(**dict(zip(fields, worths)))
            by_places = error(*worths)
            for field, worth in zip(fields, worths):
                self.assertEqual(getattr(by_places, field), worth)
                self.assertEqual(getattr(by_names, field), worth)

    def test_each_is_made_of_just_its_fields(self):
        for _, error, fields in self.each():
            self.assertRaises(TypeError, error)
            self.assertRaises(TypeError, error, *[0 for _ in fields], 0)

    def test_each_is_raised_and_caught_by_python_s_class(self):
        for base, error, fields in self.each():
            with self.assertRaises(base):
                raise error(*[0 for _ in fields])


if __name__ == "__main__":
    unittest.main()
