"""Rows behind any number of beats, and the round that a course comes to."""

import unittest

from bandprint.bands import Band, Press, Work
from bandprint.beats import next_rows, run
from bandprint.courses import Course
from bandprint.errors import NoRows, TooLong
from bandprint.rounds import behind, round_of
from tests.samples import (FAR, FLIP2, KEEP2, MIXED_ROWS, Refusals, chances, mixed_course, one_marked, slow_far,
                           slow_run, slow_seek, small_work, some_course, some_rows, some_work, tail_course, wheels)
from tests.test_rows import wrong_rows

LONG = (5, 7, 8, 9, 11)
FIFTY = 10 ** 50 + 12345
SIXTY = 987654321 * 10 ** 51 + 4321


def marked_at(longs, beats):
    """Rows of wheels whose one mark has gone on by so many beats."""
    return tuple("".join("b" if at == beats % long else "a" for at in range(long)) for long in longs)


def long_course(**deeds):
    """A course of wheels that come round behind 27720 beats only, with a press that does nothing."""
    work = wheels(LONG)
    return Course(Work("ab", work.bands(), [Press(("a", 0), ("b", 0), KEEP2)]), **deeds)


class Behind(Refusals):

    def test_few_beats_are_single_beats(self):
        for chance in chances(60, 6):
            course = some_course(chance, some_work(chance))
            rows = some_rows(chance, course.work())
            begin = chance.choice([0, 0, 1, 5, 12, FIFTY])
            single = slow_run(course, rows, 25, begin)
            told = [behind(course, rows, beats, begin=begin) for beats in range(26)]
            self.assertEqual(told, single)

    def test_it_is_what_a_run_tells(self):
        course = mixed_course()
        rows = MIXED_ROWS
        self.assertEqual([behind(course, rows, beats) for beats in range(31)], run(course, rows, 30))
        self.assertEqual(behind(course, rows, 700), run(course, rows, 700)[-1])

    def test_by_places_and_by_names(self):
        course, rows = Course(small_work()), ("baa", "abab")
        due = ("aab", "abab")
        self.assertEqual(behind(course, rows, 2), due)
        self.assertEqual(behind(course, rows, 2, begin=0), due)
        self.assertEqual(behind(course=course, rows=rows, beats=2, begin=0), due)
        self.assertRaises(TypeError, behind, course, rows, 2, 0)
        self.assertEqual(behind(course, rows, 0), rows)
        self.assertEqual(behind(course, rows, 0, begin=FAR), rows)

    def test_far_without_presses(self):
        work = Work("abc", [Band("a", 5, pace=3), Band("b", 4, pace=-10 ** 12), Band("c", 7, pace=10 ** 12 - 1)])
        rows = ("abcab", "cabb", "aabbccb")
        for begin in [0, 7, FIFTY]:
            for beats in [1, 13, 10 ** 9, SIXTY, FAR, FAR - 1]:
                due = tuple("".join(text[(at - band.pace() * beats) % band.long()] for at in range(band.long()))
                            for band, text in zip(work.bands(), rows))
                self.assertEqual(behind(Course(work), rows, beats, begin=begin), due)

    def test_far_by_chance(self):
        for chance in chances(120, 7):
            work = some_work(chance)
            last = chance.choice([12, 3000, FIFTY, FAR])
            course = some_course(chance, work, last=last)
            rows = some_rows(chance, work)
            begin = chance.choice([0, 3, 1999, FIFTY, FIFTY + 1])
            beats = chance.choice([7, 1000, 1001, 5000, SIXTY, FAR, FAR - begin])
            due = slow_far(course, rows, beats, begin)
            if isinstance(due, int):
                self.refused(TooLong, {"beats": due}, behind, course, rows, beats, begin=begin)
            else:
                self.assertEqual(behind(course, rows, beats, begin=begin), due)

    def test_some_and_then_some_more_are_all(self):
        for chance in chances(60, 8):
            course = some_course(chance, some_work(chance, presses=1), last=chance.choice([12, FIFTY]))
            rows = some_rows(chance, course.work())
            begin = chance.choice([0, 5, FIFTY])
            first, more = chance.choice([0, 1, 9, SIXTY]), chance.choice([0, 1, 30, 2000, SIXTY + 7])
            middle = behind(course, rows, first, begin=begin)
            due = behind(course, rows, first + more, begin=begin)
            self.assertEqual(behind(course, middle, more, begin=begin + first), due)
            self.assertEqual(next_rows(course, due, begin + first + more),
                             behind(course, rows, first + more + 1, begin=begin))

    def test_puts_and_lifts_around_begin(self):
        work = Work("ab", [Band("a", 3), Band("b", 3)], [Press(("b", 0), ("a", 2), ("ba", "ba"))])
        course = Course(work, puts=[(3, ("a", 0), "b"), (5, ("a", 1), "b")], lifts=[(2, 0, "up"), (5, 0, "down")])
        rows = ("aaa", "aaa")
        self.assertEqual(behind(course, rows, 10 ** 40, begin=0), ("bbb", "aaa"))
        self.assertEqual(behind(course, rows, 10 ** 40 + 1, begin=0), ("bba", "aaa"))
        self.assertEqual(behind(course, rows, 3, begin=2), ("bba", "aaa"))
        self.assertEqual(behind(course, rows, 3, begin=3), ("abb", "aaa"))
        self.assertEqual(behind(course, rows, 10 ** 40 + 2, begin=3), ("aba", "aaa"))
        self.assertEqual(behind(course, rows, 10 ** 40 + 1, begin=5), ("aab", "aaa"))
        self.assertEqual(behind(course, rows, 10 ** 40, begin=5), ("aaa", "aaa"))
        self.assertEqual(behind(course, rows, 1, begin=10 ** 30), ("aab", "aaa"))

    def test_puts_far_apart(self):
        course = Course(wheels((6,)), puts=[(10 ** 20, ("a", 0), "b"), (10 ** 40, ("a", 0), "b"), (FAR, ("a", 5), "b")])
        self.assertEqual(behind(course, ("aaaaaa",), 10 ** 20 - 1), ("aaaaaa",))
        self.assertEqual(behind(course, ("aaaaaa",), 10 ** 20), ("baaaaa",))
        self.assertEqual((10 ** 40 - 10 ** 20) % 6, 0)
        self.assertEqual(behind(course, ("aaaaaa",), 10 ** 40 - 1), ("aaaaab",))
        self.assertEqual(behind(course, ("aaaaaa",), 10 ** 40 + 1), ("abaaaa",))
        self.assertEqual(behind(course, ("aaaaaa",), FAR), ("baaaab",))
        self.assertEqual(behind(course, ("aaaaaa",), FAR - 10 ** 20, begin=10 ** 20), ("baaaab",))

    def test_refused_rows(self):
        for rows, number in wrong_rows():
            self.refused(NoRows, {"number": number}, behind, Course(small_work()), rows, 3)
            self.refused(NoRows, {"number": number}, round_of, Course(small_work()), rows)
        self.refused(NoRows, {"number": 1}, behind, long_course(), ("aaaaa", "", "", "", ""), FAR)


class TooLongStretches(Refusals):

    def test_the_first_stretch(self):
        rows = one_marked(wheels(LONG))
        for course in [Course(wheels(LONG)), long_course()]:
            for beats in [0, 1, 999, 1000]:
                self.assertEqual(behind(course, rows, beats), marked_at(LONG, beats))
                self.assertEqual(behind(course, rows, beats, begin=FIFTY), marked_at(LONG, beats))
            for beats in [1001, 1002, 27720, 27721, SIXTY, FAR]:
                self.refused(TooLong, {"beats": beats}, behind, course, rows, beats)
                self.refused(TooLong, {"beats": beats}, behind, course, rows, beats, begin=FIFTY)

    def test_deeds_part_the_way(self):
        rows = one_marked(wheels(LONG))
        for first in [999, 1000]:
            put = long_course(puts=[(first, ("a", first % 5), "b")])
            lift = long_course(lifts=[(first, 0, "up")])
            for course in [put, lift]:
                for beats in [first - 1, first, first + 1, first + 999, first + 1000]:
                    self.assertEqual(behind(course, rows, beats), marked_at(LONG, beats))
                for beats in [first + 1001, FAR]:
                    self.refused(TooLong, {"beats": beats - first}, behind, course, rows, beats)

    def test_the_first_that_is_too_long_is_told(self):
        rows = one_marked(wheels(LONG))
        for first in [1001, 1002, 5000, FIFTY]:
            for course in [long_course(puts=[(first, ("a", 0), "b")]), long_course(lifts=[(first, 0, "up")])]:
                self.refused(TooLong, {"beats": first}, behind, course, rows, first + 1)
                self.refused(TooLong, {"beats": first}, behind, course, rows, FAR)
                self.refused(TooLong, {"beats": first}, behind, course, rows, first)
                self.refused(TooLong, {"beats": first}, round_of, course, rows)
        far = long_course(lifts=[(5000, 0, "up")])
        self.refused(TooLong, {"beats": 4999}, round_of, far, rows, begin=1)
        course = long_course(puts=[(600, ("a", 0), "b"), (2100, ("a", 0), "b"), (9000, ("a", 0), "b")])
        self.refused(TooLong, {"beats": 1500}, behind, course, rows, FAR)
        self.refused(TooLong, {"beats": 1500}, round_of, course, rows)
        self.refused(TooLong, {"beats": 6900}, behind, course, rows, FAR, begin=2100)
        self.refused(TooLong, {"beats": 1400}, behind, course, rows, 1400, begin=601)

    def test_deeds_at_begin_and_ahead_of_it_part_nothing(self):
        rows = one_marked(wheels(LONG))
        course = long_course(puts=[(3, ("a", 0), "b"), (7, ("b", 0), "b")], lifts=[(7, 0, "up"), (2, 0, "up")])
        self.refused(TooLong, {"beats": 1001}, behind, course, rows, 1001, begin=7)
        self.refused(TooLong, {"beats": 1001}, behind, course, rows, 1001, begin=8)
        self.assertEqual(behind(course, rows, 1000, begin=7), marked_at(LONG, 1000))
        self.refused(TooLong, {"beats": 1002}, behind, course, rows, 1003, begin=6)

    def test_two_alike_stands_at_the_bound(self):
        course, rows = tail_course(10)
        for beats in [1000, 1001, 1002, 1989, 1990, 3333, SIXTY]:
            due = (beats - 10) % 990 + 10
            self.assertEqual(behind(course, rows, beats), slow_run(course, rows, due)[-1])
        self.assertEqual(round_of(course, rows), (10, 990))
        course, rows = tail_course(11)
        self.assertEqual(behind(course, rows, 1000), slow_run(course, rows, 1000)[-1])
        self.refused(TooLong, {"beats": 1001}, behind, course, rows, 1001)
        self.refused(TooLong, {"beats": SIXTY}, behind, course, rows, SIXTY)
        self.refused(TooLong, {"beats": 1000}, round_of, course, rows)

    def test_a_long_stretch_with_two_alike_is_not_refused(self):
        work = wheels((8, 9, 11))
        rows = one_marked(work)
        course = Course(work, puts=[(5000, ("b", 0), "b"), (FIFTY, ("a", 1), "b")])
        self.assertEqual(behind(course, rows, 4999), marked_at((8, 9, 11), 4999))
        first, second, third = marked_at((8, 9, 11), 5000)
        self.assertEqual(behind(course, rows, 5000), (first, "b" + second[1:], third))
        self.assertEqual(behind(course, rows, FAR), slow_far(course, rows, FAR))

    def test_what_a_put_lays_makes_a_long_stretch_short(self):
        rows = one_marked(wheels(LONG))
        puts = [(1000, ("e", at), "a") for at in range(11)]
        course = Course(wheels(LONG), puts=puts)
        self.refused(TooLong, {"beats": 2000}, behind, course, rows, 3000)
        puts = puts + [(1001, ("d", (at + 1) % 9), "a") for at in [1000 % 9]]
        course = Course(wheels(LONG), puts=puts)
        due = behind(course, rows, FAR)
        self.assertEqual(due, (*marked_at(LONG[:3], FAR), "a" * 9, "a" * 11))

    def test_stands_are_alike_where_the_rests_are_too(self):
        flips = Work("ab", [Band("a", 1)], [Press(("a", 0), ("a", 0), ("ba", "ba"), rhythm="----x")])
        told = [behind(Course(flips), ("a",), beats) for beats in [4, 5, 9, 10, 10 ** 9 + 4, 10 ** 9 + 5, 10 ** 9 + 9]]
        self.assertEqual(told, [("a",), ("b",), ("b",), ("a",), ("a",), ("b",), ("b",)])
        self.assertEqual(round_of(Course(flips), ("a",)), (0, 10))
        self.assertEqual(behind(Course(flips), ("a",), 10 ** 9 + 4, begin=1), ("b",))


class Rounds(Refusals):

    def test_by_hand(self):
        self.assertEqual(round_of(Course(wheels((6,))), ("baaaaa",)), (0, 6))
        self.assertEqual(round_of(Course(wheels((6,))), ("babaab",)), (0, 6))
        self.assertEqual(round_of(Course(wheels((6,))), ("baabaa",)), (0, 3))
        self.assertEqual(round_of(Course(wheels((6,))), ("aaaaaa",)), (0, 1))
        self.assertEqual(round_of(Course(wheels((4, 6))), ("baaa", "baaaaa")), (0, 12))
        self.assertEqual(round_of(Course(Work("ab", [Band("a", 3)])), ("bab",)), (0, 1))

    def test_rests_of_rhythms_that_do_nothing(self):
        work = Work("ab", [Band("a", 1)], [Press(("a", 0), ("a", 0), KEEP2, rhythm="-----"),
                                           Press(("a", 0), ("a", 0), KEEP2, rhythm="xx")])
        self.assertEqual(round_of(Course(work), ("a",)), (0, 10))
        self.assertEqual(round_of(Course(work, lifts=[(0, 0, "up"), (0, 1, "up")]), ("a",), begin=3), (0, 10))

    def test_from_behind_a_tail(self):
        work = Work("ab", [Band("a", 7, pace=1)], [Press(("a", 0), ("a", 0), ("aa", "aa"))])
        self.assertEqual(round_of(Course(work), ("abaaaaa",)), (6, 1))
        self.assertEqual(round_of(Course(work), ("baaaaaa",)), (7, 1))
        self.assertEqual(round_of(Course(work), ("aaaaaab",)), (1, 1))
        self.assertEqual(round_of(Course(work), ("aaaaaaa",)), (0, 1))

    def test_from_is_at_or_behind_the_last_deed(self):
        wheel = wheels((4,))
        self.assertEqual(round_of(Course(wheel, puts=[(9, ("a", 0), "a")]), ("aaaa",)), (9, 1))
        self.assertEqual(round_of(Course(wheel, puts=[(9, ("a", 0), "b"), (2, ("a", 1), "b")]), ("aaaa",)), (9, 4))
        self.assertEqual(round_of(Course(wheel, puts=[(9, ("a", 0), "b")]), ("aaaa",), begin=4), (5, 4))
        self.assertEqual(round_of(Course(wheel, puts=[(9, ("a", 0), "b")]), ("aaaa",), begin=9), (0, 1))
        self.assertEqual(round_of(Course(wheel, puts=[(9, ("a", 0), "b")]), ("aaaa",), begin=8), (1, 4))
        self.assertEqual(round_of(Course(wheel, puts=[(FAR, ("a", 0), "b")]), ("abab",)), (FAR, 4))
        self.assertEqual(round_of(Course(wheel, puts=[(FAR, ("a", 0), "b")]), ("abab",), begin=FIFTY), (FAR - FIFTY, 2))
        press = Press(("a", 0), ("a", 0), ("ba", "ba"))
        course = Course(Work("ab", [Band("a", 1)], [press]), lifts=[(0, 0, "up"), (6, 0, "down"), (4, 0, "up")])
        self.assertEqual(round_of(course, ("a",)), (6, 2))
        self.assertEqual(round_of(course, ("a",), begin=5), (1, 2))
        self.assertEqual(round_of(course, ("a",), begin=6), (0, 2))

    def test_by_places_and_by_names(self):
        course = Course(wheels((4,)))
        self.assertEqual(round_of(course=course, rows=("abbb",), begin=0), (0, 4))
        self.assertEqual(round_of(course, ("abbb",), begin=FIFTY), (0, 4))
        self.assertRaises(TypeError, round_of, course, ("abbb",), 0)

    def test_by_chance(self):
        for chance in chances(100, 9):
            work = some_work(chance)
            course = some_course(chance, work, last=chance.choice([8, 40, 2500]))
            rows = some_rows(chance, work)
            begin = chance.choice([0, 0, 4, 9, 39, FIFTY])
            due = slow_seek(course, (rows,), begin, lambda standing: False)
            if isinstance(due, int):
                self.refused(TooLong, {"beats": due}, round_of, course, rows, begin=begin)
            else:
                self.assertEqual(round_of(course, rows, begin=begin), due[1:])

    def test_too_long_from_the_last_deed_on(self):
        rows = one_marked(wheels(LONG))
        for begin in [0, 700, FIFTY]:
            self.refused(TooLong, {"beats": 1000}, round_of, long_course(), rows, begin=begin)
            self.refused(TooLong, {"beats": 1000}, round_of, long_course(lifts=[(900, 0, "up")]), rows, begin=begin)
        self.refused(TooLong, {"beats": 1000}, round_of, long_course(puts=[(1000, ("a", 0), "b")]), rows)
        self.refused(TooLong, {"beats": 1001}, round_of, long_course(puts=[(1001, ("a", 0), "b")]), rows)

    def test_nothing_is_changed(self):
        course = Course(small_work(), puts=[(3, ("one", 0), "b")], lifts=[(2000, 0, "up")])
        behind(course, ("aba", "abab"), FAR)
        round_of(course, ("aba", "abab"))
        self.assertEqual(course, Course(small_work(), puts=[(3, ("one", 0), "b")], lifts=[(2000, 0, "up")]))

    def test_press_below_reads_a_lifted_stretch(self):
        work = Work("ab", [Band("a", 3, pace=1), Band("b", 2, pace=1)], [Press(("a", 0), ("b", 0), FLIP2)])
        course = Course(work, lifts=[(5000, 0, "up"), (9001, 0, "down")])
        for beats in [4999, 5000, 5001, 5002, 9000, 9001, 9002, 9003, 12000, SIXTY]:
            self.assertEqual(behind(course, ("baa", "ab"), beats), slow_far(course, ("baa", "ab"), beats))
        self.assertEqual(behind(course, ("baa", "ab"), 9100), slow_run(course, ("baa", "ab"), 9100)[-1])


if __name__ == "__main__":
    unittest.main()
