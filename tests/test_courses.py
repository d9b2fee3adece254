"""Courses: made, told, refused, equal; what works and what is laid at a beat."""

import unittest

from bandprint.bands import Band, Press, Work
from bandprint.courses import Course
from bandprint.errors import NoCourse, NoPress
from tests.samples import (FAR, FLIP2, Refusals, chances, mixed_work, odd_things, slow_up, small_work, some_course,
                           some_work)

PUTS = ((5, ("two", 3), "a"), (1, ("one", 0), "b"), (5, ("one", 2), "b"))
LIFTS = ((3, 0, "up"), (0, 0, "down"))


class Courses(Refusals):

    def test_tells_what_it_was_made_of(self):
        course = Course(small_work(), puts=PUTS, lifts=LIFTS)
        for _ in range(2):
            self.assertEqual(course.work(), small_work())
            self.assertEqual(course.puts(), list(PUTS))
            self.assertEqual(course.lifts(), list(LIFTS))

    def test_lists_beside_tuples_and_what_is_left_out(self):
        self.assertEqual(Course(small_work(), puts=list(PUTS), lifts=list(LIFTS)),
                         Course(small_work(), puts=PUTS, lifts=LIFTS))
        self.assertEqual(Course(small_work()), Course(work=small_work(), puts=[], lifts=()))
        self.assertEqual((Course(small_work()).puts(), Course(small_work()).lifts()), ([], []))
        self.assertEqual(Course(small_work(), lifts=LIFTS).puts(), [])
        self.assertEqual(Course(small_work(), puts=PUTS).lifts(), [])
        self.assertRaises(TypeError, Course, small_work(), PUTS)

    def test_what_is_handed_in_and_told_is_copied(self):
        puts, lifts = list(PUTS), list(LIFTS)
        course = Course(small_work(), puts=puts, lifts=lifts)
        self.assertEqual((puts, lifts), (list(PUTS), list(LIFTS)))
        puts.clear()
        lifts[0] = (3, 0, "down")
        course.puts().pop()
        course.lifts().append(None)
        course.laid(5).clear()
        course.deed_beats().append(7)
        self.assertEqual(course, Course(small_work(), puts=PUTS, lifts=LIFTS))
        self.assertEqual(course.puts(), list(PUTS))
        self.assertEqual(course.lifts(), list(LIFTS))
        self.assertEqual(course.deed_beats(), [0, 1, 3, 5])
        self.assertEqual(course.laid(5), [(("one", 2), "b"), (("two", 3), "a")])

    def test_bounds(self):
        put, lift = (FAR, ("two", 3), "b"), (FAR, 0, "up")
        self.assertEqual(Course(small_work(), puts=[put], lifts=[lift]).deed_beats(), [FAR])
        self.assertEqual(Course(small_work(), puts=[put] * 12).puts(), [put] * 12)
        self.assertEqual(Course(small_work(), lifts=[lift] * 12).lifts(), [lift] * 12)
        self.assertEqual(len(Course(small_work(), puts=[put] * 7, lifts=[lift] * 5).lifts()), 5)
        self.assertEqual(Course(small_work(), puts=[(1, ("one", 0), "a")], lifts=[(0, 0, "down")]).deed_beats(), [0, 1])
        last = len(mixed_work().presses()) - 1
        self.assertEqual(Course(mixed_work(), lifts=[(0, last, "up")]).lifts(), [(0, last, "up")])

    def test_too_many_are_told_as_lifts(self):
        put, lift = (1, ("one", 0), "a"), (0, 0, "up")
        for puts, lifts in [(13, 0), (0, 13), (12, 1), (1, 12), (7, 6), (30, 0)]:
            self.refused(NoCourse, {"field": "lifts"}, Course, small_work(), puts=[put] * puts, lifts=(lift,) * lifts)
        self.refused(NoCourse, {"field": "puts"}, Course, small_work(), puts=[put] * 13 + [None])

    def test_refused_works(self):
        for work in odd_things() + [small_work, [small_work()], "ab", 0]:
            if not isinstance(work, Work):
                self.refused(NoCourse, {"field": "work"}, Course, work)

    def test_refused_puts(self):
        wrong = [
            (0, ("one", 0), "a"), (-1, ("one", 0), "a"), (FAR + 1, ("one", 0), "a"), (True, ("one", 0), "a"),
            (1.0, ("one", 0), "a"), ("1", ("one", 0), "a"), (None, ("one", 0), "a"), ((1,), ("one", 0), "a"),
            (1, ("one", 3), "a"), (1, ("three", 0), "a"), (1, ("one", True), "a"), (1, ["one", 0], "a"),
            (1, "one", "a"),
            (1, ("one", -1), "a"), (1, ("one", 0.0), "a"), (1, None, "a"), (1, {}, "a"), (1, ("one", [0]), "a"),
            (1, ("one", 0, 0), "a"), (1, 0, "a"), (1, (["one"], 0), "a"),
            (1, ("one", 0), "c"), (1, ("one", 0), ""), (1, ("one", 0), "ab"), (1, ("one", 0), "A"), (1, ("one", 0), 0),
            (1, ("one", 0), None), (1, ("one", 0), True), (1, ("one", 0), ["a"]), (1, ("one", 0), ("a",)),
            [1, ("one", 0), "a"], (1, ("one", 0)), (1, ("one", 0), "a", 0), (), (1, "one", 0, "a"),
            {1: ("one", 0)}, "abc", {"a": 1, "b": 2, "c": 3}, (1, small_work(), "a"), (1, ("one", 0), small_work()),
        ]
        for put in odd_things() + wrong:
            self.refused(NoCourse, {"field": "puts"}, Course, small_work(), puts=[put])
            self.refused(NoCourse, {"field": "puts"}, Course, small_work(), puts=(PUTS[0], put, PUTS[1]))
        for puts in [thing for thing in odd_things() if thing != []] + [0, "puts", PUTS[0], {1: PUTS[0]}]:
            self.refused(NoCourse, {"field": "puts"}, Course, small_work(), puts=puts)

    def test_refused_lifts(self):
        wrong = [
            (-1, 0, "up"), (FAR + 1, 0, "up"), (True, 0, "up"), (False, 0, "up"), (0.0, 0, "up"), ("0", 0, "up"),
            (None, 0, "up"), ([0], 0, "up"), (0, 1, "up"), (0, -1, "up"), (0, True, "up"), (0, False, "up"),
            (0, 0.0, "up"),
            (0, "0", "up"), (0, None, "up"), (0, [0], "up"), (0, ("one", 0), "up"), (0, 0, "Up"), (0, 0, ""),
            (0, 0, "ups"),
            (0, 0, None), (0, 0, True), (0, 0, 1), (0, 0, ["up"]), (0, 0, ("up",)), (0, 0, "u"),
            [0, 0, "up"], (0, 0), (0, 0, "up", 0), (0, "up"), (), {0: 0}, "up", (0, FAR, "up"), (0, {}, "up"),
        ]
        for lift in odd_things() + wrong:
            self.refused(NoCourse, {"field": "lifts"}, Course, small_work(), lifts=[lift])
            self.refused(NoCourse, {"field": "lifts"}, Course, small_work(), lifts=(LIFTS[0], lift))
        for lifts in [thing for thing in odd_things() if thing != []] + [0, "lifts", LIFTS[0], {0: LIFTS[0]}]:
            self.refused(NoCourse, {"field": "lifts"}, Course, small_work(), lifts=lifts)
        bare = Work("ab", [Band("one", 3)])
        self.refused(NoCourse, {"field": "lifts"}, Course, bare, lifts=[(0, 0, "up")])

    def test_the_first_that_is_due_is_told(self):
        self.refused(NoCourse, {"field": "work"}, Course, None, puts=None, lifts=None)
        self.refused(NoCourse, {"field": "puts"}, Course, small_work(), puts=None, lifts=None)
        self.refused(NoCourse, {"field": "lifts"}, Course, small_work(), puts=PUTS, lifts=None)

    def test_equal_where_told_alike(self):
        course = Course(small_work(), puts=PUTS, lifts=LIFTS)
        self.assertTrue(course == Course(small_work(), puts=list(PUTS), lifts=list(LIFTS)))
        self.assertFalse(course != Course(small_work(), puts=list(PUTS), lifts=list(LIFTS)))
        other_work = Work("ab", (Band("one", 3, pace=1), Band("two", 4)), small_work().presses())
        for other in [Course(small_work(), puts=PUTS[::-1], lifts=LIFTS),
                      Course(small_work(), puts=PUTS, lifts=LIFTS[::-1]),
                      Course(small_work(), puts=PUTS[1:], lifts=LIFTS), Course(small_work(), puts=PUTS),
                      Course(small_work(), lifts=LIFTS), Course(other_work, puts=PUTS, lifts=LIFTS),
                      Course(small_work(), puts=PUTS, lifts=(*LIFTS, LIFTS[-1]))]:
            self.assertFalse(course == other)
            self.assertTrue(course != other)

    def test_equal_to_nothing_else(self):
        for other in odd_things() + [small_work(), (small_work(), [], [])]:
            if not isinstance(other, Course):
                self.assertFalse(Course(small_work()) == other)
                self.assertTrue(Course(small_work()) != other)


def pressed(rhythm, lifts=()):
    """A course of one press of this rhythm."""
    return Course(Work("ab", [Band("a", 2)], [Press(("a", 0), ("a", 1), FLIP2, rhythm=rhythm)]), lifts=lifts)


class Working(Refusals):

    def working(self, course, beats, press=0):
        return "".join("x" if course.works(press, beat) else "-" for beat in beats)

    def test_by_rhythm(self):
        self.assertEqual(self.working(pressed("x"), range(1, 8)), "xxxxxxx")
        self.assertEqual(self.working(pressed("-"), range(1, 8)), "-------")
        self.assertEqual(self.working(pressed("x-"), range(1, 8)), "x-x-x-x")
        self.assertEqual(self.working(pressed("-xx-"), range(1, 11)), "-xx--xx--x")
        self.assertEqual(self.working(pressed("x-----"), range(1, 14)), "x-----x-----x")
        self.assertIs(pressed("x-").works(0, 1), True)
        self.assertIs(pressed("x-").works(press=0, beat=2), False)

    def test_far(self):
        self.assertEqual([FAR % 3, FAR % 6], [1, 4])
        self.assertEqual(self.working(pressed("x--"), range(FAR - 3, FAR + 1)), "x--x")
        self.assertEqual(self.working(pressed("---x--"), [FAR - 1, FAR]), "-x")
        self.assertEqual(self.working(pressed("x", [(FAR - 1, 0, "up")]), [FAR - 2, FAR - 1, FAR]), "xx-")

    def test_behind_lifts_of_beats_below(self):
        course = pressed("x", [(2, 0, "up"), (4, 0, "down")])
        self.assertEqual(self.working(course, range(1, 8)), "xx--xxx")
        course = pressed("x", [(4, 0, "down"), (2, 0, "up")])
        self.assertEqual(self.working(course, range(1, 8)), "xx--xxx")
        course = pressed("xx-", [(0, 0, "up"), (3, 0, "down"), (6, 0, "up")])
        self.assertEqual(self.working(course, range(1, 10)), "---xx----")
        self.assertEqual(self.working(pressed("x", [(1, 0, "down")]), range(1, 5)), "xxxx")

    def test_lifts_of_the_same_beat_as_told(self):
        course = pressed("x", [(2, 0, "up"), (2, 0, "down")])
        self.assertEqual(self.working(course, range(1, 6)), "xxxxx")
        course = pressed("x", [(2, 0, "down"), (2, 0, "up")])
        self.assertEqual(self.working(course, range(1, 6)), "xx---")
        course = pressed("x", [(3, 0, "up"), (1, 0, "up"), (3, 0, "down"), (1, 0, "down"), (1, 0, "up")])
        self.assertEqual(self.working(course, range(1, 6)), "x--xx")
        course = pressed("x", [(0, 0, "up"), (0, 0, "down"), (0, 0, "up")])
        self.assertEqual(self.working(course, range(1, 4)), "---")

    def test_each_press_by_its_own_lifts(self):
        course = Course(mixed_work(), lifts=[(1, 3, "up"), (2, 5, "up"), (2, 3, "down")])
        self.assertEqual(self.working(course, range(1, 5), 3), "x-xx")
        self.assertEqual(self.working(course, range(1, 5), 5), "xx--")
        self.assertEqual(self.working(course, range(1, 5), 0), "x-x-")

    def test_by_chance(self):
        for chance in chances(40, 1):
            course = some_course(chance, some_work(chance))
            for number, press in enumerate(course.work().presses()):
                for beat in range(1, 16):
                    due = press.rhythm()[(beat - 1) % len(press.rhythm())] == "x" and not slow_up(course, number, beat)
                    self.assertIs(course.works(number, beat), due)

    def test_refused_presses(self):
        for press in odd_things() + [-1, 1, 10 ** 60, 0.0, "0", (0,), [0], Course(small_work())]:
            self.refused(NoPress, {"field": "press"}, Course(small_work()).works, press, 1)
        self.refused(NoPress, {"field": "press"}, Course(small_work()).works, press=1, beat=1)
        self.refused(NoPress, {"field": "press"}, Course(Work("ab", [Band("a", 1)])).works, 0, 1)
        self.refused(NoPress, {"field": "press"}, Course(mixed_work()).works, 6, 1)
        self.refused(NoPress, {"field": "press"}, Course(mixed_work()).works, 8, 1)
        self.assertIs(Course(mixed_work()).works(5, 1), True)


class Laid(unittest.TestCase):

    def test_in_the_order_of_places(self):
        puts = [(2, ("two", 0), "a"), (2, ("one", 2), "b"), (3, ("one", 1), "a"), (2, ("one", 0), "b")]
        course = Course(small_work(), puts=puts)
        self.assertEqual(course.laid(2), [(("one", 0), "b"), (("one", 2), "b"), (("two", 0), "a")])
        self.assertEqual(course.laid(beat=3), [(("one", 1), "a")])
        self.assertEqual(course.laid(1), [])
        self.assertEqual(course.laid(4), [])

    def test_bands_in_the_work_s_order(self):
        work = Work("ab", [Band("z", 2), Band("a", 2)])
        course = Course(work, puts=[(1, ("a", 0), "a"), (1, ("z", 1), "b"), (1, ("z", 0), "b")])
        self.assertEqual(course.laid(1), [(("z", 0), "b"), (("z", 1), "b"), (("a", 0), "a")])

    def test_of_one_place_the_last_one_told(self):
        puts = [(2, ("one", 0), "a"), (2, ("two", 0), "a"), (2, ("one", 0), "b"), (1, ("one", 0), "a")]
        course = Course(small_work(), puts=puts)
        self.assertEqual(course.laid(2), [(("one", 0), "b"), (("two", 0), "a")])
        self.assertEqual(Course(small_work(), puts=puts[::-1]).laid(2), [(("one", 0), "a"), (("two", 0), "a")])

    def test_far(self):
        self.assertEqual(Course(small_work(), puts=[(FAR, ("one", 0), "b")]).laid(FAR), [(("one", 0), "b")])
        self.assertEqual(Course(small_work(), puts=[(FAR, ("one", 0), "b")]).laid(FAR - 1), [])

    def test_beats_of_puts_and_lifts(self):
        self.assertEqual(Course(small_work(), puts=PUTS, lifts=LIFTS).deed_beats(), [0, 1, 3, 5])
        self.assertEqual(Course(small_work(), puts=PUTS).deed_beats(), [1, 5])
        self.assertEqual(Course(small_work(), lifts=LIFTS).deed_beats(), [0, 3])
        self.assertEqual(Course(small_work()).deed_beats(), [])
        both = Course(small_work(), puts=[(7, ("one", 0), "a"), (2, ("one", 1), "a")],
                      lifts=[(7, 0, "up"), (2, 0, "up")])
        self.assertEqual(both.deed_beats(), [2, 7])
        self.assertEqual(Course(small_work(), puts=[(10 ** 30, ("one", 0), "a")], lifts=[(FAR, 0, "up"), (9, 0, "up")]
                                ).deed_beats(), [9, 10 ** 30, FAR])


if __name__ == "__main__":
    unittest.main()
