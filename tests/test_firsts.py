"""Wishes: met, first seen, when seen; two rows told apart by windows."""

import unittest

from bandprint.bands import Band, Press, Work
from bandprint.courses import Course
from bandprint.errors import NoRows, TooLong
from bandprint.firsts import first_seen, is_met, told_apart, when_seen
from bandprint.rounds import behind, round_of
from bandprint.rows import sign_at
from tests.samples import (FAR, FLIP2, KEEP2, Refusals, chances, one_marked, slow_far, slow_run, slow_seek,
                           small_work, some_course, some_rows, some_work, tail_course, wheels)
from tests.test_rounds import FIFTY, LONG, SIXTY, long_course, marked_at
from tests.test_rows import wrong_rows

NEVER = [(("a", 0), "a"), (("a", 0), "b")]
BOTH = ("baa", "abab")


def wish_of(longs, beats):
    """The wish that wheels have gone on by so many beats."""
    return [(("abcdef"[at], beats % long), "b") for at, long in enumerate(longs)]


def slow_met(work, rows, wish):
    """Whether rows have all of a wish, one by one."""
    return all(sign_at(work, rows, place) == sign for place, sign in wish)


def some_wish(chance, work):
    """A wish by chance."""
    many = chance.choice([0, 1, 1, 2, 2, 3])
    return [(chance.choice(work.places()), chance.choice(work.signs())) for _ in range(many)]


class Met(Refusals):

    def test_all_of_it(self):
        self.assertIs(is_met(small_work(), BOTH, [(("one", 0), "b")]), True)
        self.assertIs(is_met(small_work(), BOTH, [(("one", 0), "a")]), False)
        self.assertIs(is_met(small_work(), BOTH, [(("one", 0), "b"), (("two", 3), "b")]), True)
        self.assertIs(is_met(small_work(), BOTH, [(("one", 0), "b"), (("two", 3), "a")]), False)
        self.assertIs(is_met(small_work(), BOTH, [(("one", 0), "a"), (("two", 3), "b")]), False)
        self.assertIs(is_met(work=small_work(), rows=BOTH, wish=((("two", 1), "b"),)), True)

    def test_of_none_by_all_rows(self):
        self.assertIs(is_met(small_work(), BOTH, []), True)
        self.assertIs(is_met(small_work(), BOTH, ()), True)

    def test_of_one_place_twice(self):
        self.assertIs(is_met(small_work(), BOTH, [(("one", 0), "b"), (("one", 0), "b")]), True)
        self.assertIs(is_met(small_work(), BOTH, [(("one", 0), "a"), (("one", 0), "b")]), False)
        self.assertIs(is_met(small_work(), BOTH, [(("one", 0), "b"), (("one", 0), "a")]), False)

    def test_by_chance(self):
        for chance in chances(40, 10):
            work = some_work(chance)
            rows, wish = some_rows(chance, work), some_wish(chance, work)
            self.assertIs(is_met(work, rows, wish), slow_met(work, rows, wish))
            self.assertIs(is_met(work, rows, tuple(wish)), slow_met(work, rows, wish))

    def test_refused_rows(self):
        for rows, number in wrong_rows():
            self.refused(NoRows, {"number": number}, is_met, small_work(), rows, [])
            self.refused(NoRows, {"number": number}, first_seen, Course(small_work()), rows, [])
            self.refused(NoRows, {"number": number}, when_seen, Course(small_work()), rows, [])
            self.refused(NoRows, {"number": number}, told_apart, Course(small_work()), rows, BOTH, [])
            self.refused(NoRows, {"number": number}, told_apart, Course(small_work()), BOTH, rows, [])


class FirstSeen(Refusals):

    def test_by_hand(self):
        wheel = Course(wheels((6,)))
        rows = ("baaaaa",)
        self.assertEqual(first_seen(wheel, rows, [(("a", 0), "b")]), ("at", 0))
        self.assertEqual(first_seen(wheel, rows, [(("a", 5), "b")]), ("at", 5))
        self.assertEqual(first_seen(wheel, rows, [(("a", 0), "a"), (("a", 2), "b")]), ("at", 2))
        self.assertEqual(first_seen(wheel, rows, [(("a", 0), "b"), (("a", 2), "b")]), ("never", 0, 6))
        self.assertEqual(first_seen(wheel, rows, []), ("at", 0))
        self.assertEqual(first_seen(wheel, rows, NEVER), ("never", 0, 6))
        self.assertEqual(first_seen(wheel, rows, [(("a", 3), "b"), (("a", 3), "b")]), ("at", 3))

    def test_by_places_and_by_names(self):
        wheel = Course(wheels((6,)))
        wish = [(("a", 4), "b")]
        self.assertEqual(first_seen(course=wheel, rows=("baaaaa",), wish=wish, begin=0), ("at", 4))
        self.assertEqual(first_seen(wheel, ("baaaaa",), tuple(wish)), ("at", 4))
        self.assertEqual(first_seen(wheel, ("baaaaa",), wish, begin=FIFTY), ("at", 4))
        self.assertRaises(TypeError, first_seen, wheel, ("baaaaa",), wish, 0)

    def test_met_at_a_put(self):
        wheel = wheels((6,))
        wish = [(("a", 0), "b"), (("a", 2), "b")]
        for beat in [12, 18, 999, 1000, 1001, 1002, 6 * 10 ** 20, FAR]:
            puts = [(beat, ("a", at), "b") for at in [0, 2]]
            self.assertEqual(first_seen(Course(wheel, puts=puts), ("baaaaa",), wish), ("at", beat))
        put = Course(wheel, puts=[(13, ("a", 3), "b")])
        self.assertEqual(first_seen(put, ("baaaaa",), wish), ("at", 18))
        self.assertEqual(first_seen(put, ("baaaaa",), wish, begin=1), ("never", 12, 3))
        self.assertEqual(first_seen(put, ("baaaaa",), wish, begin=12), ("at", 6))
        self.assertEqual(first_seen(put, ("abaaaa",), wish, begin=12), ("never", 1, 6))
        self.assertEqual(first_seen(put, ("abaaaa",), wish, begin=13), ("never", 0, 6))

    def test_met_ahead_of_a_put(self):
        course = Course(wheels((6,)), puts=[(4, ("a", 4), "a")])
        self.assertEqual(first_seen(course, ("baaaaa",), [(("a", 3), "b")]), ("at", 3))
        self.assertEqual(first_seen(course, ("baaaaa",), [(("a", 4), "b")]), ("never", 4, 1))
        self.assertEqual(first_seen(course, ("baaaaa",), [(("a", 5), "b")]), ("never", 4, 1))

    def test_met_behind_far_lifts(self):
        work = Work("ab", [Band("a", 2)], [Press(("a", 0), ("a", 1), FLIP2)])
        course = Course(work, lifts=[(0, 0, "up"), (10 ** 40, 0, "down"), (FAR, 0, "up")])
        self.assertEqual(first_seen(course, ("ba",), [(("a", 1), "b")]), ("at", 10 ** 40 + 1))
        self.assertEqual(first_seen(course, ("ba",), [(("a", 1), "b")], begin=10 ** 39),
                         ("at", 10 ** 40 + 1 - 10 ** 39))
        self.assertEqual(first_seen(course, ("ba",), [(("a", 0), "a")]), ("never", FAR, 1))
        self.assertEqual(first_seen(course, ("ba",), [(("a", 1), "b")], begin=FAR), ("never", 0, 1))

    def test_by_chance(self):
        for chance in chances(150, 11):
            work = some_work(chance)
            course = some_course(chance, work, last=chance.choice([8, 40, 2500]))
            rows, wish = some_rows(chance, work), some_wish(chance, work)
            begin = chance.choice([0, 0, 4, 9, 39, FIFTY])
            due = slow_seek(course, (rows,), begin, lambda standing: slow_met(work, standing[0], wish))
            if isinstance(due, int):
                self.refused(TooLong, {"beats": due}, first_seen, course, rows, wish, begin=begin)
                continue
            told = first_seen(course, rows, wish, begin=begin)
            self.assertEqual(told, due)
            if told[0] == "never":
                self.assertEqual(told[1:], round_of(course, rows, begin=begin))
            elif told[1] < 100:
                run = slow_run(course, rows, told[1], begin)
                self.assertEqual([slow_met(work, each, wish) for each in run], [False] * told[1] + [True])

    def test_the_last_stretch_at_the_bound(self):
        rows = one_marked(wheels(LONG))
        for course in [Course(wheels(LONG)), long_course(lifts=[(500, 0, "up")])]:
            last = 500 if course.lifts() else 0
            for beats in [0, 1, 999, last + 999, last + 1000]:
                self.assertEqual(first_seen(course, rows, wish_of(LONG, beats)), ("at", beats))
            for beats in [last + 1001, last + 1002, 27719]:
                self.refused(TooLong, {"beats": 1000}, first_seen, course, rows, wish_of(LONG, beats))
            self.refused(TooLong, {"beats": 1000}, first_seen, course, rows, NEVER)
            self.refused(TooLong, {"beats": 1000}, first_seen, course, rows, NEVER, begin=FIFTY)

    def test_a_stretch_ahead_of_a_deed_at_the_bound(self):
        rows = one_marked(wheels(LONG))
        for first in [1001, 1002, 1500, FIFTY]:
            for course in [long_course(puts=[(first, ("b", 0), "b")]), long_course(lifts=[(first, 0, "up")])]:
                for beats in [0, 999, 1000]:
                    self.assertEqual(first_seen(course, rows, wish_of(LONG, beats)), ("at", beats))
                self.refused(TooLong, {"beats": first}, first_seen, course, rows, wish_of(LONG, first))
                self.refused(TooLong, {"beats": first}, first_seen, course, rows, NEVER)
        for first in [999, 1000]:
            course = long_course(lifts=[(first, 0, "up")])
            self.assertEqual(first_seen(course, rows, wish_of(LONG, 1500)), ("at", 1500))
            self.assertEqual(first_seen(course, rows, wish_of(LONG, first + 1000)), ("at", first + 1000))
            self.refused(TooLong, {"beats": 1000}, first_seen, course, rows, wish_of(LONG, first + 1001))

    def test_two_alike_stands_at_the_bound(self):
        course, rows = tail_course(10)
        self.assertEqual(first_seen(course, rows, NEVER), ("never", 10, 990))
        self.assertEqual(when_seen(course, rows, NEVER), (10, 990, []))
        self.assertEqual(when_seen(course, rows, []), (10, 990, list(range(10, 1000))))
        course, rows = tail_course(11)
        self.refused(TooLong, {"beats": 1000}, first_seen, course, rows, NEVER)
        self.refused(TooLong, {"beats": 1000}, when_seen, course, rows, NEVER)
        self.refused(TooLong, {"beats": 1000}, when_seen, course, rows, [])
        self.assertEqual(first_seen(course, rows, []), ("at", 0))

    def test_a_long_stretch_with_two_alike_is_gone_over(self):
        work = wheels((8, 9, 11))
        rows = one_marked(work)
        course = Course(work, puts=[(10 ** 30, ("a", at), "b") for at in range(8)])
        self.assertEqual(first_seen(course, rows, [(("a", 0), "b"), (("a", 1), "b")]), ("at", 10 ** 30))
        self.assertEqual(first_seen(course, rows, [(("b", 0), "b"), (("b", 1), "b")]), ("never", 10 ** 30, 99))


class WhenSeen(Refusals):

    def test_by_hand(self):
        wheel = Course(wheels((6,)))
        self.assertEqual(when_seen(wheel, ("babaaa",), [(("a", 0), "b")]), (0, 6, [0, 4]))
        self.assertEqual(when_seen(wheel, ("babaaa",), [(("a", 0), "a")]), (0, 6, [1, 2, 3, 5]))
        self.assertEqual(when_seen(wheel, ("babaaa",), []), (0, 6, [0, 1, 2, 3, 4, 5]))
        self.assertEqual(when_seen(wheel, ("babaaa",), NEVER), (0, 6, []))
        self.assertEqual(when_seen(course=wheel, rows=("babaaa",), wish=((("a", 0), "b"),), begin=7), (0, 6, [0, 4]))
        self.assertRaises(TypeError, when_seen, wheel, ("babaaa",), [], 0)

    def test_from_on_alone(self):
        course = Course(wheels((6,)), puts=[(7, ("a", 0), "b")])
        self.assertEqual(when_seen(course, ("baaaaa",), [(("a", 0), "b"), (("a", 1), "b")]), (7, 6, [7]))
        self.assertEqual(when_seen(course, ("baaaaa",), [(("a", 2), "b")]), (7, 6, [8, 9]))
        self.assertEqual(when_seen(course, ("baaaaa",), [(("a", 2), "b")], begin=5), (2, 6, [2, 4]))
        far = Course(wheels((4,)), puts=[(FAR, ("a", 0), "b")])
        self.assertEqual(when_seen(far, ("aaaa",), [(("a", 3), "b")], begin=4), (FAR - 4, 4, [FAR - 1]))
        self.assertEqual(when_seen(far, ("aaaa",), [(("a", 3), "b")], begin=FAR), (0, 1, []))

    def test_behind_a_tail(self):
        work = Work("ab", [Band("a", 7, pace=1), Band("b", 3, pace=1)], [Press(("a", 0), ("a", 0), ("aa", "aa"))])
        self.assertEqual(when_seen(Course(work), ("abaaaaa", "baa"), [(("b", 0), "b")]), (6, 3, [6]))
        self.assertEqual(when_seen(Course(work), ("abaaaaa", "baa"), [(("b", 0), "b"), (("a", 3), "b")]), (6, 3, []))

    def test_by_chance(self):
        for chance in chances(100, 12):
            work = some_work(chance)
            course = some_course(chance, work, last=chance.choice([8, 40, 2500]))
            rows, wish = some_rows(chance, work), some_wish(chance, work)
            begin = chance.choice([0, 0, 4, 9, 39, FIFTY])
            due = slow_seek(course, (rows,), begin, lambda standing: False)
            if isinstance(due, int):
                self.refused(TooLong, {"beats": due}, when_seen, course, rows, wish, begin=begin)
                continue
            first, many, beats = when_seen(course, rows, wish, begin=begin)
            self.assertEqual((first, many), due[1:])
            start = slow_far(course, rows, first, begin)
            met = [slow_met(work, each, wish) for each in slow_run(course, start, many - 1, begin + first)]
            self.assertEqual(beats, [first + at for at in range(many) if met[at]])
            number = SIXTY + chance.randrange(100)
            rest = first + (number - first) % many
            self.assertIs(rest in beats, slow_met(work, behind(course, rows, number, begin=begin), wish))

    def test_too_long(self):
        rows = one_marked(wheels(LONG))
        self.refused(TooLong, {"beats": 1000}, when_seen, Course(wheels(LONG)), rows, [])
        self.refused(TooLong, {"beats": 1000}, when_seen, Course(wheels(LONG)), rows, wish_of(LONG, 0), begin=3)
        self.refused(TooLong, {"beats": 1001}, when_seen, long_course(lifts=[(1001, 0, "up")]), rows, [])
        self.refused(TooLong, {"beats": 1000}, when_seen, long_course(lifts=[(1000, 0, "up")]), rows, [])

    def test_told_lists_are_the_asker_s(self):
        wheel, wish = Course(wheels((6,))), [(("a", 0), "b")]
        when_seen(wheel, ("babaaa",), wish)[2].clear()
        self.assertEqual(when_seen(wheel, ("babaaa",), wish), (0, 6, [0, 4]))
        self.assertEqual(wish, [(("a", 0), "b")])


class ToldApart(Refusals):

    def test_by_hand(self):
        wheel = Course(wheels((6, 2)))
        one, other = ("baaaaa", "ab"), ("aaaaaa", "ab")
        self.assertEqual(told_apart(wheel, one, other, [("a", 0)]), ("at", 0))
        self.assertEqual(told_apart(wheel, one, other, [("a", 4)]), ("at", 4))
        self.assertEqual(told_apart(wheel, other, one, [("a", 4)]), ("at", 4))
        self.assertEqual(told_apart(wheel, one, other, [("a", 5), ("a", 3), ("b", 0)]), ("at", 3))
        self.assertEqual(told_apart(wheel, one, other, (("b", 0), ("b", 1))), ("never",))
        self.assertEqual(told_apart(wheel, one, other, []), ("never",))
        self.assertEqual(told_apart(wheel, one, one, [("a", 0), ("b", 0)]), ("never",))
        self.assertEqual(told_apart(wheel, one, ("baaaaa", "ba"), [("a", 0), ("b", 1)]), ("at", 0))

    def test_by_places_and_by_names(self):
        wheel = Course(wheels((6,)))
        told = told_apart(course=wheel, one=("baaaaa",), other=("aaaaaa",), windows=[("a", 2)], begin=0)
        self.assertEqual(told, ("at", 2))
        self.assertEqual(told_apart(wheel, ("baaaaa",), ("aaaaaa",), (("a", 2),), begin=FIFTY), ("at", 2))
        self.assertRaises(TypeError, told_apart, wheel, ("baaaaa",), ("aaaaaa",), [("a", 2)], 0)

    def test_through_a_press(self):
        work = Work("ab", [Band("a", 5, pace=1), Band("b", 3)], [Press(("a", 0), ("b", 1), FLIP2)])
        one, other = ("abaaa", "aaa"), ("aaaaa", "aaa")
        self.assertEqual(told_apart(Course(work), one, other, [("b", 1)]), ("at", 4))
        self.assertEqual(told_apart(Course(work), one, other, [("b", 0), ("b", 2)]), ("never",))
        lifted = Course(work, lifts=[(1, 0, "up"), (10 ** 50, 0, "down")])
        self.assertEqual(told_apart(lifted, one, other, [("b", 1)]), ("at", 10 ** 50 + 4))
        put = Course(work, puts=[(3, ("a", 4), "a")])
        self.assertEqual(told_apart(put, one, other, [("b", 1)]), ("never",))
        self.assertEqual(told_apart(put, one, other, [("b", 1)], begin=3), ("at", 4))

    def test_by_chance(self):
        for chance in chances(150, 13):
            work = some_work(chance)
            course = some_course(chance, work, last=chance.choice([8, 40, 2500]))
            one, other = some_rows(chance, work), some_rows(chance, work)
            windows = [chance.choice(work.places()) for _ in range(chance.choice([0, 1, 1, 2]))]
            begin = chance.choice([0, 0, 4, 9, 39, FIFTY])
            due = slow_seek(course, (one, other), begin, lambda pair: any(
                sign_at(work, pair[0], place) != sign_at(work, pair[1], place) for place in windows))
            for rows, others in [(one, other), (other, one)]:
                if isinstance(due, int):
                    self.refused(TooLong, {"beats": due}, told_apart, course, rows, others, windows, begin=begin)
                else:
                    self.assertEqual(told_apart(course, rows, others, windows, begin=begin),
                                     due if due[0] == "at" else ("never",))

    def test_the_two_are_gone_on_together(self):
        work = wheels((7, 8, 9, 11, 1))
        one = ("aaaaaaa", "aaaaaaaa", "baaaaaaaa", "baaaaaaaaaa", "a")
        other = ("baaaaaa", "baaaaaaa", "aaaaaaaaa", "aaaaaaaaaaa", "a")
        self.assertEqual((round_of(Course(work), one), round_of(Course(work), other)), ((0, 99), (0, 56)))
        self.refused(TooLong, {"beats": 1000}, told_apart, Course(work), one, other, [("e", 0)])
        self.refused(TooLong, {"beats": 1000}, told_apart, Course(work), one, other, [])
        self.assertEqual(told_apart(Course(work), one, one, [("e", 0)]), ("never",))
        self.assertEqual(told_apart(Course(work), one, other, [("e", 0), ("a", 6)]), ("at", 6))
        third = ("aaaaaaa", "baaaaaaa", "aaaaaaaaa", "aaaaaaaaaaa", "a")
        self.assertEqual(told_apart(Course(work), one, third, [("e", 0)]), ("never",))
        put = Course(work, puts=[(1500, ("e", 0), "a")])
        self.refused(TooLong, {"beats": 1500}, told_apart, put, one, other, [("e", 0)])
        self.refused(TooLong, {"beats": 1499}, told_apart, put, one, other, [("e", 0)], begin=1)
        self.assertEqual(told_apart(put, one, third, [("e", 0)]), ("never",))

    def test_at_the_bound(self):
        rows = one_marked(wheels(LONG))
        other = ("baaab", *rows[1:])
        wheel = Course(wheels(LONG))
        self.assertEqual(told_apart(wheel, rows, other, [("a", 3)]), ("at", 4))
        self.refused(TooLong, {"beats": 1000}, told_apart, wheel, rows, other, [("b", 0)])
        for first in [1000, 1001, 1002]:
            course = Course(wheels(LONG), puts=[(first, ("a", 0), "a")])
            due = 1000 if first == 1000 else first
            self.refused(TooLong, {"beats": due}, told_apart, course, rows, other, [("b", 0)])
        course, rows = tail_course(10)
        self.assertEqual(told_apart(course, rows, rows, [("a", 0)]), ("never",))
        course, rows = tail_course(11)
        self.refused(TooLong, {"beats": 1000}, told_apart, course, rows, rows, [("a", 0)])

    def test_the_last_beat_that_is_gone_to(self):
        longs = (5, 7, 8, 9)
        rows = one_marked(wheels(longs))
        for beats in [998, 1000, 1001]:
            # The press on top copies the first mark; the others leave it where all marks have come to theirs, too.
            marks = [place for place, _ in wish_of(longs, beats)]
            presses = [Press(marks[0], ("e", 0), ("aa", "bb"))]
            presses = presses + [Press(mark, ("e", 0), ("aa", "ab")) for mark in [*marks[1:], ("e", 1)]]
            course = Course(Work("ab", [*wheels(longs).bands(), Band("e", 2)], presses))
            told = (course, (*rows, "ab"), (*rows, "aa"), [("e", 0)])
            if beats <= 1000:
                self.assertEqual(told_apart(*told), ("at", beats))
                self.assertEqual(told_apart(*told, begin=FIFTY), ("at", beats))
            else:
                self.refused(TooLong, {"beats": 1000}, told_apart, *told)

    def test_the_beats_rests_are_alike_too(self):
        work = Work("ab", [Band("a", 1), Band("b", 1)], [Press(("a", 0), ("b", 0), FLIP2, rhythm="-----x")])
        self.assertEqual(told_apart(Course(work), ("a", "a"), ("b", "a"), [("b", 0)]), ("at", 6))
        self.assertEqual(told_apart(Course(work), ("a", "a"), ("b", "a"), [("b", 0)], begin=4), ("at", 2))
        self.assertEqual(first_seen(Course(work), ("b", "a"), [(("b", 0), "b")]), ("at", 6))
        self.assertEqual(first_seen(Course(work), ("a", "a"), [(("b", 0), "b")]), ("never", 0, 6))
        keep = Work("ab", [Band("a", 1), Band("b", 1)], [Press(("a", 0), ("b", 0), KEEP2, rhythm="-----x")])
        self.assertEqual(when_seen(Course(keep), ("b", "a"), []), (0, 6, [0, 1, 2, 3, 4, 5]))

    def test_nothing_is_changed(self):
        course, windows, wish = long_course(puts=[(5, ("a", 0), "b")]), [("a", 0)], [(("a", 0), "b")]
        told_apart(course, marked_at(LONG, 0), marked_at(LONG, 1), windows)
        first_seen(course, marked_at(LONG, 0), wish)
        is_met(course.work(), marked_at(LONG, 0), wish)
        self.assertEqual((windows, wish), ([("a", 0)], [(("a", 0), "b")]))
        self.assertEqual(course, long_course(puts=[(5, ("a", 0), "b")]))


if __name__ == "__main__":
    unittest.main()
