"""Sightings and looks: which are such, and how all that ask for them refuse others."""

import unittest

from bandprint.alike import alike, echoes
from bandprint.blame import blame, shows_blame
from bandprint.both import both_show, shows_both
from bandprint.courses import Course
from bandprint.errors import NoLook, NoSight
from bandprint.needs import asked, needed_presses
from bandprint.puts import fewest_puts, wish_sightings
from bandprint.shown import best_look, shown, shows_shown, would
from bandprint.signs import DEEPEST
from bandprint.treelooks import shows_tree
from bandprint.trees import tree_of
from tests.samples import FAR, Refusals, mixed_work, odd_things, small_work

FIFTY_NINE = 10 ** 59
WHOLE = [("fits",)]


def sighting_asks(begin):
    """All that ask for sightings, from a begin on."""
    look = (begin, ("one", 0))
    return [
        lambda course, told: asked(course, told, begin=begin),
        lambda course, told: needed_presses(course, told, begin=begin),
        lambda course, told: tree_of(course, told, begin=begin),
        lambda course, told: shows_tree(course, told, WHOLE, begin=begin),
        lambda course, told: shows_tree(course, told, None, begin=begin),
        lambda course, told: would(course, told, look, begin=begin),
        lambda course, told: best_look(course, told, [look], begin=begin),
        lambda course, told: best_look(course, told, [], begin=begin),
        lambda course, told: blame(course, told, begin=begin),
        lambda course, told: shows_blame(course, told, None, begin=begin),
    ]


def look_asks(begin):
    """All that ask for a look, from a begin on."""
    look = (begin, ("one", 0))
    return [
        lambda course, told: shown(course, told, begin=begin),
        lambda course, told: shows_shown(course, told, WHOLE, begin=begin),
        lambda course, told: shows_shown(course, told, None, begin=begin),
        lambda course, told: would(course, [], told, begin=begin),
        lambda course, told: best_look(course, [], [told], begin=begin),
        lambda course, told: best_look(course, (), [look, told, None], begin=begin),
        lambda course, told: both_show(course, told, course, look, begin=begin),
        lambda course, told: both_show(course, look, course, told, begin=begin),
        lambda course, told: both_show(course, told, course, None, begin=begin),
        lambda course, told: shows_both(course, told, course, look, None, begin=begin),
        lambda course, told: shows_both(course, look, course, told, ("same", WHOLE), begin=begin),
    ]


def odd_beats(begin):
    """What is no beat from begin to DEEPEST beats behind it."""
    odd = [begin + DEEPEST + 1, begin - 1, -1, FAR + 61, float(begin), str(begin), None, True, [begin], (begin,)]
    return [beat for beat in odd if beat is True or beat not in range(begin, begin + DEEPEST + 1) or
            isinstance(beat, float)]


ODD_PLACES = [("one", 3), ("two", 4), ("one", -1), ("one", True), ("one", 0.0), ("three", 0), ["one", 0], ("one",),
              "one",
              ("one", 0, 0), 0, None, ("One", 0), {"one": 0}, ("one", [0]), ([], 0)]
ODD_SIGNS = ["c", "", "ab", "A", 0, None, ["a"], ("a",), True, {"a": 1}]


class Sightings(Refusals):

    def refused_at(self, number, sightings, begin=0):
        """That all refuse sightings with this number."""
        course = Course(small_work())
        for ask in sighting_asks(begin):
            self.refused(NoSight, {"number": number}, ask, course, sightings)

    def test_none_and_thirty_and_lists_and_tuples(self):
        course = Course(small_work())
        for begin in [0, 5, FIFTY_NINE]:
            one = (begin, ("one", 0), "a")
            for sightings in [[], (), [one], (one,), [one] * 30, (one,) * 30]:
                for ask in sighting_asks(begin):
                    ask(course, sightings)

    def test_beats_at_the_bounds(self):
        course = Course(small_work())
        for begin in [0, 1, 59, FIFTY_NINE]:
            for beat in [begin, begin + 1, begin + DEEPEST]:
                for ask in sighting_asks(begin):
                    ask(course, [(beat, ("two", 3), "b")])
            for beat in odd_beats(begin):
                self.refused_at(0, [(beat, ("two", 3), "b")], begin)
                self.refused_at(1, ((begin, ("two", 3), "b"), (beat, ("two", 3), "b")), begin)

    def test_no_list(self):
        one = (0, ("one", 0), "a")
        for thing in odd_things() + [{0: one}, "", 7]:
            if not isinstance(thing, (list, tuple)):
                self.refused_at(-1, thing)
        self.refused_at(-1, [one] * 31)
        self.refused_at(-1, (one,) * 31)
        self.refused_at(-1, [None] * 31)

    def test_the_first_that_is_none(self):
        one = (0, ("one", 0), "a")
        for thing in odd_things():
            self.refused_at(0, [thing])
            self.refused_at(2, [one, one, thing, None])
            self.refused_at(29, [one] * 29 + [thing])
        for place in ODD_PLACES:
            self.refused_at(1, [one, (0, place, "a"), None])
        for sign in ODD_SIGNS:
            self.refused_at(1, [one, (0, ("one", 0), sign), None])
        self.refused_at(0, [[0, ("one", 0), "a"]])
        self.refused_at(0, [(0, ("one", 0))])
        self.refused_at(0, [(0, ("one", 0), "a", "a")])
        self.refused_at(1, (one, ("one", 0)))

    def test_places_and_signs_are_those_of_the_work(self):
        course = Course(mixed_work())
        self.assertEqual(asked(course, [(0, ("e", 0), "c")]), [("e", 0)])
        self.refused(NoSight, {"number": 0}, asked, course, [(0, ("e", 0), "d")])
        self.refused(NoSight, {"number": 0}, asked, course, [(0, ("e", 1), "c")])

    def test_of_a_wish(self):
        course, rows = Course(small_work()), ("aba", "abba")
        part = (("one", 0), "a")
        for begin in [0, 7, FIFTY_NINE]:
            for thing in [None, 5, "", {0: part}, [part] * 31, (part,) * 31]:
                self.refused(NoSight, {"number": -1}, fewest_puts, course, rows, thing, 1, begin=begin)
            for thing in odd_things() + [[("one", 0), "a"], (("one", 0),), (("one", 0), "a", "a"),
                                         (begin, ("one", 0), "a"), (("one", 3), "a"), (("one", 0), "c")]:
                self.refused(NoSight, {"number": 0}, fewest_puts, course, rows, [thing], 1, begin=begin)
                self.refused(NoSight, {"number": 1}, fewest_puts, course, rows, (part, thing, None), 1, begin=begin)
            for beats in [-1, DEEPEST + 1]:
                self.refused(NoSight, {"number": 0}, fewest_puts, course, rows, [part, part], beats, begin=begin)
                self.assertEqual(fewest_puts(course, rows, [], beats, begin=begin), ("puts", 0, rows, WHOLE))
            for beats in [0, DEEPEST]:
                self.assertEqual(fewest_puts(course, rows, [part] * 30, beats, begin=begin)[0], "puts")
            self.refused(NoSight, {"number": -1}, wish_sightings, None, 1)


class Looks(Refusals):

    def refused_look(self, look, begin=0):
        """That all refuse a look with this very thing."""
        course = Course(small_work())
        for ask in look_asks(begin):
            self.refused(NoLook, {"look": look}, ask, course, look)

    def test_looks_at_the_bounds(self):
        course = Course(small_work())
        for begin in [0, 1, 59, FIFTY_NINE]:
            for beat in [begin, begin + 1, begin + DEEPEST]:
                for ask in look_asks(begin)[:5]:
                    ask(course, (beat, ("one", 2)))
            for beat in odd_beats(begin):
                self.refused_look((beat, ("one", 2)), begin)

    def test_what_is_no_look(self):
        for thing in odd_things() + [[0, ("one", 0)], (0, ("one", 0), "a"), (("one", 0), 0), (0,)]:
            course = Course(small_work())
            for ask in look_asks(0):
                with self.assertRaises(NoLook) as caught:
                    ask(course, thing)
                self.assertEqual(repr(caught.exception.look), repr(thing))
        for place in ODD_PLACES:
            self.refused_look((0, place))

    def test_the_look_is_kept_as_a_copy(self):
        course, look = Course(small_work()), [0, ["one"]]
        for ask in look_asks(0):
            with self.assertRaises(NoLook) as caught:
                ask(course, look)
            look[1].append(0)
            self.assertEqual(caught.exception.look, [0, ["one"]])
            look[1].pop()

    def test_sightings_go_ahead_of_looks(self):
        course = Course(small_work())
        self.refused(NoSight, {"number": -1}, would, course, None, None)
        self.refused(NoSight, {"number": 0}, would, course, [None], (0, ("one", 0)))
        self.refused(NoSight, {"number": 0}, best_look, course, [None], [None])
        self.refused(NoSight, {"number": -1}, best_look, course, None, [])
        self.refused(NoLook, {"look": 5}, best_look, course, [], [(0, ("one", 0)), 5, 6])

    def test_the_first_look_goes_ahead_of_the_other(self):
        course = Course(small_work())
        self.refused(NoLook, {"look": 5}, both_show, course, 5, course, 6)
        self.refused(NoLook, {"look": 6}, both_show, course, (0, ("one", 0)), course, 6)

    def test_looks_of_all_beats_are_asked_where_beats_are_handed_in(self):
        course = Course(small_work())
        self.assertEqual(len(alike(course, course, [("one", 0)], DEEPEST)[1]), DEEPEST + 1)
        self.assertEqual(echoes(course, ("two", 0), ("two", 1), 1, 1)[0], "parts")


if __name__ == "__main__":
    unittest.main()
