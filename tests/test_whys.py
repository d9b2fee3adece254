"""Whys: where a sign comes from, which presses turned it since, and what they read."""

import unittest

from bandprint.bands import Band, Press, Work
from bandprint.beats import run
from bandprint.courses import Course
from bandprint.errors import NoBeat, NoPlace, NoPress, NoRows
from bandprint.passes import where
from bandprint.whys import why
from tests.samples import (FAR, FLIP2, KEEP2, MIXED_ROWS, Refusals, chances, mixed_course, mixed_work, odd_things,
                           small_work, some_course, some_rows, some_work)
from tests.slowcases import moved, place_sign, working
from tests.test_rows import wrong_rows

A, B = ("a", 0), ("b", 0)
ROWS = ("aba", "abba")


def slow_whys(course, rows, beats, begin=0):
    """For each beat, and each press ahead of which it is asked (None of the whole beat), the whys by places."""
    work = course.work()
    stands = {place: (("begins", place, place_sign(work, rows, place)), [], place_sign(work, rows, place))
              for place in work.places()}
    told = {(begin, None): stands}
    for beat in range(begin + 1, begin + beats + 1):
        stands = {moved(work, place, 1): stands[place] for place in work.places()}
        at_work = working(course, beat)
        for number, press in enumerate(work.presses()):
            told[(beat, number)] = stands
            if number not in at_work:
                continue
            read = stands[press.above()][2]
            origin, prints, sign = stands[press.below()]
            sign = press.table()[work.signs().index(read)][work.signs().index(sign)]
            stands = {**stands, press.below(): (origin, prints + [(beat, number, read)], sign)}
        laid = {place: sign for at, place, sign in course.puts() if at == beat}
        stands = {**stands, **{place: (("put", beat, place, sign), [], sign) for place, sign in laid.items()}}
        told[(beat, None)] = stands
    return told


class Whys(Refusals):

    def test_by_hand(self):
        course = Course(small_work())
        # Behind a beat the a of (one, 2) stands above, and the b of (two, 1), which it leaves, below.
        self.assertEqual(why(course, ROWS, ("two", 0), 1), (("begins", ("two", 1), "b"), [(1, 0, "a")], "b"))
        self.assertEqual(why(course, ROWS, ("one", 0), 1), (("begins", ("one", 2), "a"), [], "a"))
        self.assertEqual(why(course, ("abb", "abba"), ("two", 0), 1), (("begins", ("two", 1), "b"), [(1, 0, "b")], "a"))
        self.assertEqual(why(course, ROWS, ("two", 3), 2), (("begins", ("two", 1), "b"), [(1, 0, "a")], "b"))
        self.assertEqual(why(course=course, rows=ROWS, place=("two", 0), beat=1, begin=0, ahead=None),
                         why(course, ROWS, ("two", 0), 1))
        self.assertRaises(TypeError, why, course, ROWS, ("two", 0), 1, 0)

    def test_at_begin(self):
        for begin in (0, 5, FAR):
            course = Course(small_work(), puts=[(5, ("two", 0), "b")])
            for place in small_work().places():
                sign = place_sign(small_work(), ROWS, place)
                self.assertEqual(why(course, ROWS, place, begin, begin=begin), (("begins", place, sign), [], sign))

    def test_puts(self):
        course = Course(small_work(), puts=[(2, ("two", 3), "a"), (4, ("two", 0), "b"), (4, ("two", 0), "a"),
                                            (6, ("two", 1), "b")])
        # The put of beat 2 comes to place 2 behind beat 3, and to 0 behind 5, where the press works on it.
        self.assertEqual(why(course, ROWS, ("two", 3), 2), (("put", 2, ("two", 3), "a"), [], "a"))
        self.assertEqual(why(course, ROWS, ("two", 2), 3), (("put", 2, ("two", 3), "a"), [], "a"))
        origin, prints, _ = why(course, ROWS, ("two", 0), 5)
        self.assertEqual((origin, [each[:2] for each in prints]), (("put", 2, ("two", 3), "a"), [(5, 0)]))
        # Of two of one beat at one place the last one; prints of its own beat are behind it.
        self.assertEqual(why(course, ROWS, ("two", 0), 4), (("put", 4, ("two", 0), "a"), [], "a"))
        self.assertEqual(why(course, ROWS, ("two", 3), 5), (("put", 4, ("two", 0), "a"), [], "a"))
        # Ahead of a press puts of this beat are aside.
        origin, prints, _ = why(course, ROWS, ("two", 0), 4, ahead=0)
        self.assertEqual((origin, prints), (("begins", ("two", 0), "a"), []))
        # A put of begin's beat is none.
        self.assertEqual(why(course, ROWS, ("two", 0), 4, begin=4)[0], ("begins", ("two", 0), "a"))
        self.assertEqual(why(course, ROWS, ("two", 3), 5, begin=4)[0], ("begins", ("two", 0), "a"))

    def test_one_place(self):
        turning = Press(A, A, ("bca", "cab", "abc"))
        work = Work("abc", [Band("a", 1)], [turning, Press(A, A, ("aaa", "aba", "cca"), rhythm="-x")])
        # By their own texts a becomes b, b a, and with the second press a stays.
        self.assertEqual(why(Course(work), ("a",), A, 2),
                         (("begins", A, "a"), [(1, 0, "a"), (2, 0, "b"), (2, 1, "a")], "a"))
        self.assertEqual(why(Course(work), ("a",), A, 2, ahead=1),
                         (("begins", A, "a"), [(1, 0, "a"), (2, 0, "b")], "a"))
        self.assertEqual(why(Course(work), ("a",), A, 2, ahead=0), (("begins", A, "a"), [(1, 0, "a")], "b"))

    def test_ahead_of_a_press_that_does_not_work(self):
        work = Work("ab", [Band("a", 1), Band("b", 1)], [Press(A, B, FLIP2), Press(A, B, FLIP2, rhythm="-"),
                                                          Press(B, A, KEEP2)])
        course = Course(work, lifts=[(0, 2, "up")])
        self.assertEqual(why(course, ("b", "a"), B, 1, ahead=0), (("begins", B, "a"), [], "a"))
        for ahead in (1, 2):
            self.assertEqual(why(course, ("b", "a"), B, 1, ahead=ahead), (("begins", B, "a"), [(1, 0, "b")], "b"))
        self.assertEqual(why(course, ("b", "a"), A, 1), (("begins", A, "b"), [], "b"))

    def test_each_place_at_each_beat(self):
        for chance in chances(40, 271):
            work = some_work(chance, presses=8)
            begin = chance.choice([0, 0, 3, FAR])
            course = some_course(chance, work, first=max(0, min(begin, FAR - 12)), last=min(begin + 12, FAR))
            rows = some_rows(chance, work)
            due = slow_whys(course, rows, 10, begin)
            stands = run(course, rows, 10, begin=begin)
            for (beat, ahead), told in due.items():
                for place in work.places():
                    found = why(course, rows, place, beat, begin=begin, ahead=ahead)
                    self.assertEqual(found, told[place])
                    self.assertEqual((type(found), type(found[1])), (tuple, list))
                    if ahead is None:
                        self.assertEqual(found[2], place_sign(work, stands[beat - begin], place))

    def test_the_mixed_course(self):
        due = slow_whys(mixed_course(), MIXED_ROWS, 25)
        for (beat, ahead), told in due.items():
            for place in mixed_work().places():
                self.assertEqual(why(mixed_course(), MIXED_ROWS, place, beat, ahead=ahead), told[place])

    def test_a_thousand_beats(self):
        for begin in (0, 7, FAR // 10):
            course = Course(small_work(), puts=[(begin + 400, ("two", 0), "b")])
            for place in [("two", 0), ("two", 2), ("one", 1)]:
                origin, prints, sign = why(course, ROWS, place, begin + 1000, begin=begin)
                self.assertEqual(sign, place_sign(small_work(), run(course, ROWS, 1000, begin=begin)[-1], place))
                if place[0] == "two" and place[1] == 0:
                    self.assertEqual((origin, len(prints)), (("put", begin + 400, ("two", 0), "b"), 150))
                else:
                    self.assertEqual(origin[:2], ("begins", where(small_work(), place, -1000)))
            self.refused(NoBeat, {"beat": begin + 1001}, why, course, ROWS, ("two", 0), begin + 1001, begin=begin)


class RefusedWhys(Refusals):

    def test_no_rows_first(self):
        for rows, number in wrong_rows():
            self.refused(NoRows, {"number": number}, why, Course(small_work()), rows, None, None, ahead="x")

    def test_no_place_next(self):
        for place in odd_things() + [("two", 4), ("six", 0), ["two", 0], ("two", True)]:
            self.refused(NoPlace, {"place": place}, why, Course(small_work()), ROWS, place, None, ahead="x")

    def test_no_beat_next(self):
        for beat in odd_things() + [4, -1, 1006, FAR, "5"]:
            self.refused(NoBeat, {"beat": beat}, why, Course(small_work()), ROWS, ("two", 0), beat, begin=5, ahead="x")
        self.refused(NoBeat, {"beat": 0}, why, Course(small_work()), ROWS, ("two", 0), 0, begin=5)
        self.refused(NoBeat, {"beat": 1001}, why, Course(small_work()), ROWS, ("two", 0), 1001)

    def test_no_press_last(self):
        for ahead in odd_things() + [1, -1, 8, FAR, "0"]:
            if ahead is not None:
                self.refused(NoPress, {"field": "press"}, why, Course(small_work()), ROWS, ("two", 0), 6, begin=5,
                             ahead=ahead)
                self.refused(NoPress, {"field": "press"}, why, Course(small_work()), ROWS, ("two", 0), 5, begin=5,
                             ahead=ahead)
        # At begin there is nothing ahead of any press.
        self.refused(NoPress, {"field": "press"}, why, Course(small_work()), ROWS, ("two", 0), 5, begin=5, ahead=0)
        self.assertEqual(why(Course(small_work()), ROWS, ("two", 0), 6, begin=5, ahead=0)[1], [])

    def test_what_is_told_is_the_askers_own(self):
        course = Course(small_work())
        why(course, ROWS, ("two", 0), 1)[1].clear()
        self.assertEqual(len(why(course, ROWS, ("two", 0), 1)[1]), 1)
        place = ["two", [0]]
        with self.assertRaises(NoPlace) as caught:
            why(course, ROWS, place, 1)
        place[1].append(1)
        self.assertEqual(caught.exception.place, ["two", [0]])


if __name__ == "__main__":
    unittest.main()
