"""The refusals: each straight under its class, made of anything, telling its fields."""

import unittest

from bandprint import errors
from tests.samples import odd_things, small_work

CLASSES = {
    ValueError: {
        "NoBand": ["field"], "NoPress": ["field"], "NoWork": ["field"], "NoCourse": ["field"],
        "NoRows": ["number"], "NoSign": ["sign"], "NoSide": ["side"], "NoSight": ["number"], "NoLook": ["look"],
        "Lossy": ["press"], "Unread": ["row", "word"], "NoDeed": ["at"], "NoAsk": ["row"],
    },
    KeyError: {"NoPlace": ["place"], "NoChange": ["change"], "NoName": ["name"], "Taken": ["name"]},
    IndexError: {"NoBeat": ["beat"], "Early": ["begin"]},
    LookupError: {"NotOne": ["sign"], "Seen": ["name", "number"], "OtherWork": ["part"]},
    RuntimeError: {"Needed": ["name", "by"], "Full": ["name"]},
    ArithmeticError: {"TooLong": ["beats"], "TooMany": ["many"], "Unfit": ["name"]},
}


class Errors(unittest.TestCase):

    def each(self):
        return [(base, getattr(errors, name), fields)
                for base, names in CLASSES.items() for name, fields in names.items()]

    def test_each_is_straight_under_its_class(self):
        self.assertEqual(len(self.each()), 27)
        for base, error, _ in self.each():
            self.assertEqual(error.__bases__, (base,), error)

    def alike(self, one, other):
        """That two things are equal, kind for kind, and that what never changes is the very thing."""
        self.assertIs(type(one), type(other))
        if isinstance(one, dict):
            self.assertEqual(list(one), list(other))
            self.alike(list(one.values()), list(other.values()))
        elif isinstance(one, (list, tuple)):
            self.assertEqual(len(one), len(other))
            for each, there in zip(one, other):
                self.alike(each, there)
        else:
            self.assertIs(one, other)

    def test_each_is_made_of_anything_and_tells_it(self):
        things = odd_things() + [0, -1, 10 ** 6000, "name", ("a", 0), {"a": (1, [True, {2: ()}], None)}, small_work()]
        for _, error, fields in self.each():
            for thing in things:
                told = error(*[thing for _ in fields])
                for field in fields:
                    self.alike(getattr(told, field), thing)

    def test_what_is_kept_is_a_copy(self):
        for _, error, fields in self.each():
            inner = [1]
            things = [("a", {"b": [inner, 0]}, ((inner,),)), [inner], {1: inner}, {"a": {"b": inner}}]
            for thing in things:
                told = error(*[thing for _ in fields])
                inner.append(2)
                for field in fields:
                    self.assertNotEqual(getattr(told, field), thing)
                del inner[1:]
                for field in fields:
                    self.assertEqual(getattr(told, field), thing)

    def test_at_every_depth(self):
        for _, error, fields in self.each():
            for kind in [list, tuple, dict]:
                inner = []
                thing = inner
                for _ in range(9):
                    thing = {"a": thing} if kind is dict else kind([thing])
                told = error(*[thing for _ in fields])
                inner.append(0)
                for field in fields:
                    found = getattr(told, field)
                    for _ in range(9):
                        found = found["a"] if kind is dict else found[0]
                    self.assertEqual(found, [])

    def test_nothing_handed_in_is_kept_beside_the_fields(self):
        for _, error, fields in self.each():
            thing = [0]
            for told in [error(*[thing for _ in fields]), error(**{field: thing for field in fields})]:
                self.assertFalse(any(kept is thing for kept in told.args))
                self.assertEqual(sorted(vars(told)), sorted(fields))

    def test_fields_are_copies_each(self):
        for error in [errors.Unread, errors.Seen, errors.Needed]:
            thing = [0]
            told = error(thing, thing)
            one, other = vars(told).values()
            one.append(1)
            self.assertEqual((thing, other), ([0], [0]))

    def test_each_is_made_by_places_and_by_names(self):
        for _, error, fields in self.each():
            worths = [f"worth{at}" for at in range(len(fields))]
            by_names = error(**dict(zip(fields, worths)))
            by_places = error(*worths)
            for field, worth in zip(fields, worths):
                self.assertEqual(getattr(by_places, field), worth)
                self.assertEqual(getattr(by_names, field), worth)

    def test_each_is_made_of_just_its_fields(self):
        for _, error, fields in self.each():
            self.assertRaises(TypeError, error)
            self.assertRaises(TypeError, error, *[0 for _ in fields], 0)

    def test_each_is_raised_and_caught_by_python_s_class(self):
        for base, error, fields in self.each():
            with self.assertRaises(base):
                raise error(*[0 for _ in fields])


if __name__ == "__main__":
    unittest.main()
