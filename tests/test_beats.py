"""Single beats: which presses work, the next rows, runs."""

import unittest

from bandprint.bands import Band, Press, Work
from bandprint.beats import next_rows, presses_at, run
from bandprint.courses import Course
from bandprint.errors import NoRows
from tests.samples import (FAR, FLIP2, MIXED_ROWS, Refusals, chances, mixed_course, mixed_work, slow_beat, slow_run,
                           small_work, some_course, some_rows, some_work)
from tests.test_rows import wrong_rows


def pressed(*presses, puts=(), lifts=(), signs="ab"):
    """A course of two resting bands of three places and these presses."""
    return Course(Work(signs, [Band("a", 3), Band("b", 3)], presses), puts=puts, lifts=lifts)


class PressesAt(unittest.TestCase):

    def test_numbers_rising(self):
        course = Course(mixed_work())
        told = [presses_at(course, beat) for beat in range(1, 7)]
        self.assertEqual(told, [[0, 1, 3, 5], [1, 2, 3, 5], [0, 3, 4, 5], [1, 2, 3, 5], [0, 1, 3, 5], [2, 3, 4, 5]])
        self.assertEqual(presses_at(course=course, beat=7), told[0])

    def test_lifts(self):
        course = Course(mixed_work(), lifts=[(1, 3, "up"), (0, 5, "up"), (2, 5, "down"), (2, 0, "up")])
        self.assertEqual([presses_at(course, beat) for beat in range(1, 5)], [[0, 1, 3], [1, 2], [4, 5], [1, 2, 5]])

    def test_far_and_none(self):
        self.assertEqual(presses_at(Course(mixed_work()), FAR), presses_at(Course(mixed_work()), 4))
        self.assertEqual(presses_at(Course(Work("ab", [Band("a", 1)])), 1), [])


class NextRows(Refusals):

    def test_bands_go_round(self):
        def moved(pace, text):
            return next_rows(Course(Work("abcd", [Band("a", len(text), pace=pace)])), (text,), 0)[0]
        self.assertEqual(moved(0, "abcd"), "abcd")
        self.assertEqual(moved(1, "abcd"), "dabc")
        self.assertEqual(moved(-1, "abcd"), "bcda")
        self.assertEqual(moved(2, "abcda"), "daabc")
        self.assertEqual(moved(7, "abc"), "cab")
        self.assertEqual(moved(-7, "abc"), "bca")
        self.assertEqual(moved(10 ** 12, "abc"), "cab")
        self.assertEqual(moved(-10 ** 12, "abc"), "bca")
        self.assertEqual(moved(5, "a"), "a")
        self.assertEqual(moved(12, "abcdabcdabcd"), "abcdabcdabcd")

    def test_by_hand(self):
        course = Course(small_work())
        rows = ("baa", "abab")
        for beat, due in enumerate([("aba", "baba"), ("aab", "abab"), ("baa", "aaba"), ("aba", "abaa"),
                                    ("aab", "baaa")]):
            rows = next_rows(course, rows, beat)
            self.assertEqual(rows, due)
        self.assertEqual(next_rows(course=course, rows=("baa", "abab"), beat=0), ("aba", "baba"))

    def test_the_press_reads_behind_the_move(self):
        work = Work("ab", [Band("a", 2, pace=1), Band("b", 2, pace=1)], [Press(("a", 0), ("b", 0), FLIP2)])
        self.assertEqual(next_rows(Course(work), ("ab", "aa"), 0), ("ba", "ba"))
        self.assertEqual(next_rows(Course(work), ("ba", "aa"), 0), ("ab", "aa"))

    def test_table_by_sign_above_then_sign_below(self):
        table = ("bca", "aaa", "cba")
        for at, above in enumerate("abc"):
            for under, below in enumerate("abc"):
                course = pressed(Press(("a", 1), ("b", 2), table), signs="abc")
                told = next_rows(course, ("a" + above + "a", "aa" + below), 0)
                self.assertEqual(told, ("a" + above + "a", "aa" + table[at][under]))

    def test_signs_that_begin_late(self):
        course = Course(Work("mxz", [Band("a", 2)], [Press(("a", 0), ("a", 1), ("zmx", "xxx", "mzx"))]))
        told = [next_rows(course, rows, 0)[0] for rows in [("mm",), ("mx",), ("mz",), ("xz",), ("zm",), ("zx",)]]
        self.assertEqual(told, ["mz", "mm", "mx", "xx", "zm", "zz"])

    def test_several_presses_go_in_their_order(self):
        first = Press(("a", 0), ("a", 1), ("aa", "bb"))
        second = Press(("a", 1), ("a", 2), ("aa", "bb"))
        self.assertEqual(next_rows(pressed(first, second), ("baa", "aaa"), 0), ("bbb", "aaa"))
        self.assertEqual(next_rows(pressed(second, first), ("baa", "aaa"), 0), ("bba", "aaa"))

    def test_several_presses_on_one_place(self):
        turn = Press(("a", 0), ("b", 0), ("bca", "abc", "cab"))
        swap = Press(("a", 1), ("b", 0), ("bac", "abc", "acb"))
        self.assertEqual(next_rows(pressed(turn, swap, signs="abc"), ("aaa", "aaa"), 0), ("aaa", "aaa"))
        self.assertEqual(next_rows(pressed(swap, turn, signs="abc"), ("aaa", "aaa"), 0), ("aaa", "caa"))
        self.assertEqual(next_rows(pressed(turn, turn, signs="abc"), ("aaa", "aaa"), 0), ("aaa", "caa"))

    def test_above_and_below_one_place(self):
        itself = Press(("a", 1), ("a", 1), ("bca", "caa", "aba"))
        self.assertEqual([next_rows(pressed(itself, signs="abc"), ("a" + sign + "a", "aaa"), 0)[0] for sign in "abc"],
                         ["aba", "aaa", "aaa"])
        self.assertEqual(next_rows(pressed(itself, itself, signs="abc"), ("aaa", "aaa"), 0)[0], "aaa")
        other = Press(("a", 1), ("a", 1), ("ba", "ba"))
        self.assertEqual(next_rows(pressed(other), ("aaa", "aaa"), 0)[0], "aba")
        self.assertEqual(next_rows(pressed(other), ("aba", "aaa"), 0)[0], "aaa")
        self.assertEqual(next_rows(pressed(other, other), ("aaa", "aaa"), 0)[0], "aaa")

    def test_rhythms_and_the_beat(self):
        course = pressed(Press(("b", 0), ("a", 0), ("ba", "ba"), rhythm="-xx"))
        told = [next_rows(course, ("aaa", "aaa"), beat)[0] for beat in range(6)]
        self.assertEqual(told, ["aaa", "baa", "baa", "aaa", "baa", "baa"])
        self.assertEqual(next_rows(course, ("aaa", "aaa"), FAR - 1), ("aaa", "aaa"))
        self.assertEqual(next_rows(course, ("aaa", "aaa"), FAR - 2), ("baa", "aaa"))

    def test_puts_come_last(self):
        press = Press(("a", 0), ("b", 0), ("aa", "bb"))
        course = pressed(press, puts=[(2, ("a", 0), "b"), (2, ("b", 0), "b"), (3, ("a", 0), "a")])
        self.assertEqual(next_rows(course, ("aaa", "aaa"), 0), ("aaa", "aaa"))
        self.assertEqual(next_rows(course, ("aaa", "aaa"), 1), ("baa", "baa"))
        self.assertEqual(next_rows(course, ("baa", "aaa"), 2), ("aaa", "baa"))
        self.assertEqual(next_rows(course, ("aaa", "baa"), 3), ("aaa", "aaa"))

    def test_puts_lie_where_they_are_told_behind_the_move(self):
        work = Work("ab", [Band("a", 3, pace=1)])
        self.assertEqual(next_rows(Course(work, puts=[(1, ("a", 0), "b")]), ("aaa",), 0), ("baa",))
        self.assertEqual(next_rows(Course(work, puts=[(1, ("a", 1), "a"), (1, ("a", 1), "b")]), ("baa",), 0), ("aba",))

    def test_puts_and_lifts_of_one_beat(self):
        press = Press(("a", 0), ("b", 0), ("ba", "ba"))
        course = pressed(press, puts=[(1, ("b", 0), "b")], lifts=[(1, 0, "up"), (2, 0, "down")])
        self.assertEqual(run(course, ("aaa", "aaa"), 4),
                         [("aaa", "aaa"), ("aaa", "baa"), ("aaa", "baa"), ("aaa", "aaa"), ("aaa", "baa")])

    def test_by_chance(self):
        for chance in chances(60, 4):
            work = some_work(chance)
            course = some_course(chance, work)
            rows = some_rows(chance, work)
            for beat in [0, 1, 2, 5, 11, 12, 13, FAR - 1]:
                self.assertEqual(next_rows(course, rows, beat), slow_beat(course, rows, beat + 1))

    def test_refused_rows(self):
        for rows, number in wrong_rows():
            self.refused(NoRows, {"number": number}, next_rows, Course(small_work()), rows, 0)
            self.refused(NoRows, {"number": number}, run, Course(small_work()), rows, 3)


class Runs(unittest.TestCase):

    def test_by_hand(self):
        course = Course(small_work())
        due = [("baa", "abab"), ("aba", "baba"), ("aab", "abab"), ("baa", "aaba")]
        self.assertEqual(run(course, ("baa", "abab"), 3), due)
        self.assertEqual(run(course, ("baa", "abab"), 3, begin=0), due)
        self.assertEqual(run(course=course, rows=("baa", "abab"), beats=3, begin=0), due)
        self.assertEqual(run(course, ("baa", "abab"), 0), due[:1])
        self.assertEqual(run(course, ("baa", "abab"), 0, begin=FAR), due[:1])
        self.assertRaises(TypeError, run, course, ("baa", "abab"), 3, 0)

    def test_from_several_begins(self):
        puts = [(3, ("a", 0), "b"), (5, ("a", 1), "b")]
        course = pressed(Press(("b", 0), ("a", 2), ("ba", "ba"), rhythm="--x"), puts=puts, lifts=[(4, 0, "up")])
        rows = ("aaa", "aaa")
        self.assertEqual([told[0] for told in run(course, rows, 6)],
                         ["aaa", "aaa", "aaa", "bab", "bab", "bbb", "bbb"])
        self.assertEqual([told[0] for told in run(course, rows, 4, begin=2)], ["aaa", "bab", "bab", "bbb", "bbb"])
        self.assertEqual([told[0] for told in run(course, rows, 3, begin=3)], ["aaa", "aaa", "aba", "aba"])
        self.assertEqual([told[0] for told in run(course, rows, 2, begin=5)], ["aaa", "aaa", "aaa"])

    def test_by_chance(self):
        for chance in chances(60, 5):
            work = some_work(chance)
            course = some_course(chance, work)
            rows = some_rows(chance, work)
            for begin in [0, 1, 6, 12, 10 ** 50 + 3]:
                self.assertEqual(run(course, rows, 15, begin=begin), slow_run(course, rows, 15, begin))

    def test_mixed_work(self):
        rows = MIXED_ROWS
        course = mixed_course()
        self.assertEqual(run(course, rows, 40), slow_run(course, rows, 40))

    def test_longest(self):
        told = run(Course(small_work()), ("baa", "abab"), 1000)
        self.assertEqual(told, slow_run(Course(small_work()), ("baa", "abab"), 1000))
        self.assertEqual(len(told), 1001)

    def test_told_lists_are_the_asker_s(self):
        course = Course(small_work())
        told = run(course, ("baa", "abab"), 2)
        told.clear()
        presses_at(course, 1).clear()
        self.assertEqual(run(course, ("baa", "abab"), 2), [("baa", "abab"), ("aba", "baba"), ("aab", "abab")])
        self.assertEqual(presses_at(course, 1), [0])

    def test_nothing_is_changed(self):
        course = Course(mixed_work(), puts=[(2, ("e", 0), "a")], lifts=[(1, 0, "up")])
        run(course, ("abcab", "cba", "bbca", "c"), 9)
        self.assertEqual(course, Course(mixed_work(), puts=[(2, ("e", 0), "a")], lifts=[(1, 0, "up")]))


if __name__ == "__main__":
    unittest.main()
