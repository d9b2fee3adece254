"""Two courses alike at windows, places that echo others, and the looks at these answers."""

import unittest

from bandprint.alike import alike, echoes, shows_alike, shows_echoes
from bandprint.bands import Band, Press, Work
from bandprint.both import both_show
from bandprint.courses import Course
from bandprint.errors import NoBeat, NoPlace, OtherWork, TooMany
from bandprint.signs import DEEPEST
from tests.samples import FAR, FLIP2, KEEP2, Refusals, chances, odd_things, small_work, some_course, some_work, wheels
from tests.slowcases import all_rows
from tests.test_both import another, two
from tests.test_shown import many_reads, seen_at
from tests.test_sightings import ODD_PLACES

A, B = ("a", 0), ("b", 0)
SAME = [("same",)]
ODD_BEATS = [-1, True, False, None, 1.0, "1", [1], (1,), {}, -FAR]


def parting(beat):
    """Two courses that are alike but for a sign laid at a beat, and a press that reads it."""
    bands = [Band("a", 1), Band("b", 1)]
    work = Work("ab", bands, [Press(A, B, FLIP2)])
    return Course(work, puts=[(beat, A, "a")]), Course(work, puts=[(beat, A, "b")])


class Alike(Refusals):

    def test_by_hand(self):
        course = Course(small_work())
        self.assertEqual(alike(course, course, [("one", 0)], 0), ("alike", [SAME]))
        self.assertEqual(alike(course, course, [("one", 0), ("one", 2)], 2), ("alike", [SAME] * 6))
        read = ("same", [("split", ("one", 2), (("a", 1), ("b", 2))), ("same",), ("same",)])
        self.assertEqual(alike(course, course, (("one", 0), ("two", 0)), 1), ("alike", [SAME, SAME, SAME, read[1]]))
        self.assertEqual(alike(course, course, [("two", 0), ("one", 0)], 1)[1][2:], [read[1], SAME])

    def test_at_no_windows(self):
        one, other = parting(3)
        for beats in [0, 5, DEEPEST]:
            self.assertEqual(alike(one, other, [], beats), ("alike", []))
            self.assertEqual(alike(one, other, (), beats), ("alike", []))

    def test_parting_at_begin_and_later(self):
        one, other = parting(3)
        # Laid behind the presses of its beat: the first window is still the same then, the second one isn't.
        told = alike(one, other, [B, A], 5)
        self.assertEqual((told[0], len(told[1]), told[2:4]), ("parts", 7, (3, A)))
        self.assertTrue(shows_alike(one, other, [B, A], 5, told))
        self.assertEqual(alike(one, other, [A, B], 5)[2:4], (3, A))
        self.assertEqual(alike(one, other, [B], 5)[2:4], (4, B))
        late = [Course(Work("ab", [Band("a", 1), Band("b", 1)], [Press(A, B, FLIP2, rhythm="xxx-")]),
                       puts=course.puts())
                for course in (one, other)]
        self.assertEqual(alike(*late, [B, A], 2)[0], "alike")
        self.assertEqual(alike(*late, [B], 4)[0], "alike")
        self.assertEqual(alike(*late, [B], 5)[2:4], (5, B))
        self.assertEqual(alike(*late, [A], 5, begin=3)[0], "alike")
        self.assertEqual(alike(*late, [B, A], 5, begin=2)[2:4], (3, A))
        self.assertEqual(len(alike(*late, [B, A], 5, begin=2)[1]), 3)

    def test_a_course_beside_one_of_another_pace(self):
        work = wheels((3,))
        other = Work("ab", [Band("a", 3, pace=2)])
        told = alike(Course(work), Course(other), [("a", 0)], 4)
        self.assertEqual((told[0], told[1], told[2:4]), ("parts", [SAME], (1, ("a", 0))))
        self.assertNotEqual(told[4][0][1], told[4][0][2])
        self.assertEqual(alike(Course(work), Course(Work("ab", [Band("a", 3, pace=-2)])), [("a", 0)], DEEPEST),
                         ("alike", [SAME] * 61))

    def test_one_window_twice(self):
        one, other = parting(1)
        told = alike(one, other, [B, B], 3)
        self.assertEqual((len(told[1]), told[2:4]), (4, (2, B)))
        self.assertTrue(shows_alike(one, other, [B, B], 3, told))
        self.assertFalse(shows_alike(one, other, [B, B], 3, ("parts", told[1] + told[1][:1], *told[2:])))
        self.assertEqual(alike(one, one, [A, A], 0), ("alike", [SAME, SAME]))

    def test_beside_both_show(self):
        words = []
        for chance in chances(150, 111):
            work = some_work(chance, longs=(1, 2, 3), presses=4, signs=("ab", "abc"))
            one = some_course(chance, work, last=6)
            other = another(chance, one)
            begin, beats = chance.choice([0, 0, 3, 10 ** 59]), chance.randint(0, 5)
            windows = [chance.choice(work.places()) for _ in range(chance.randint(0, 2))]
            due, trees = None, []
            try:
                for beat in range(begin, begin + beats + 1):
                    for place in windows:
                        word, told = both_show(one, (beat, place), other, (beat, place), begin=begin)
                        if due is None and word == "unlike":
                            due = ("parts", trees, beat, place, told)
                        elif due is None:
                            trees.append(told)
            except TooMany:
                if due is None:
                    self.refused(TooMany, {"many": 200}, alike, one, other, windows, beats, begin=begin)
                    continue
            due = due or ("alike", trees)
            words.append(due[0])
            self.assertEqual(alike(one, other, windows, beats, begin=begin), due)
            self.assertTrue(shows_alike(one, other, windows, beats, due, begin=begin))
        self.assertGreater(min(words.count("alike"), words.count("parts")), 10)

    def test_beside_all_beginnings(self):
        for chance in chances(30, 112):
            work = some_work(chance, longs=(1, 2), presses=4, signs=("ab",))
            one = some_course(chance, work, last=4)
            other = another(chance, one)
            windows = [chance.choice(work.places()) for _ in range(2)]
            told = alike(one, other, windows, 4)
            due = [(beat, place) for beat in range(5) for place in windows if any(
                seen_at(one, rows, (beat, place)) != seen_at(other, rows, (beat, place)) for rows in all_rows(work))]
            self.assertEqual(told[0], "parts" if due else "alike")
            if due:
                self.assertEqual(told[2:4], due[0])
                self.assertNotEqual(seen_at(one, told[4], due[0]), seen_at(other, told[4], due[0]))

    def test_refused(self):
        course, other = Course(small_work()), two(KEEP2)
        one = [("one", 0)]
        for call, more in [(alike, ()), (shows_alike, (None,))]:
            self.refused(OtherWork, {"part": "bands"}, call, course, other, [None], -1, *more)
            self.refused(OtherWork, {"part": "signs"}, call, course, two(("abc",) * 3, signs="abc"), [None], -1, *more)
            for place in ODD_PLACES:
                self.refused(NoPlace, {"place": place}, call, course, course, [*one, place, None], -1, *more)
            self.refused(NoPlace, {"place": None}, call, course, course, (None, 5), 61, *more)
            for beats in [*ODD_BEATS, DEEPEST + 1, FAR]:
                self.refused(NoBeat, {"beat": beats}, call, course, course, one, beats, *more)
                self.refused(NoBeat, {"beat": beats}, call, course, course, [], beats, *more)
        self.assertEqual(len(alike(course, course, one, DEEPEST)[1]), 61)

    def test_too_many(self):
        course, look = many_reads(4)
        self.assertEqual(alike(course, course, [look[1]], 1)[0], "alike")
        self.refused(TooMany, {"many": 200}, alike, course, course, [look[1]], 2)
        # What parts ahead of it is told.
        other = Course(course.work(), puts=[(1, ("e", 0), "b"), (1, ("k", 0), "a")])
        self.assertEqual(alike(course, other, [look[1]], 2)[2:4], (1, look[1]))
        self.assertIs(shows_alike(course, course, [look[1]], 2, None), False)
        self.refused(NoBeat, {"beat": 61}, alike, course, course, [look[1]], 61)

    def test_by_places_and_by_names(self):
        one, other = parting(3)
        windows = [B, A]
        told = alike(one=one, other=other, windows=windows, beats=5, begin=1)
        self.assertEqual(len(told[1]), 5)
        self.assertTrue(shows_alike(one=one, other=other, windows=windows, beats=5, thing=told, begin=1))
        self.assertRaises(TypeError, alike, one, other, windows, 5, 1)
        self.assertRaises(TypeError, shows_alike, one, other, windows, 5, told, 1)
        for tree in told[1]:
            tree.clear()
        told[1].clear()
        self.assertEqual(len(alike(one, other, windows, 5, begin=1)[1]), 5)
        self.assertEqual(windows, [B, A])
        trees = alike(one, one, [A, A], 0)[1]
        trees[0].clear()
        self.assertEqual(trees[1], SAME)


class LooksAtAlike(Refusals):

    def setUp(self):
        self.one, self.other = parting(2)
        self.parts = alike(self.one, self.other, [A, B], 3)
        self.alike = alike(self.one, self.one, [A, B], 2)

    def lets(self, thing, same=False):
        """What the look says of a thing, of two that part or of one course twice."""
        other, beats = (self.one, 2) if same else (self.other, 3)
        told = shows_alike(self.one, other, [A, B], beats, thing)
        self.assertIsInstance(told, bool)
        return told

    def test_told(self):
        self.assertEqual(self.parts[2:], (2, A, self.parts[4]))
        self.assertTrue(self.lets(self.parts))
        self.assertTrue(self.lets(self.alike, same=True))
        self.assertFalse(self.lets(self.parts, same=True))
        self.assertFalse(self.lets(self.alike))

    def test_trees(self):
        word, trees = self.alike
        more = [[("split", A, (("ab", 1),)), ("same",)], *trees[1:]]
        self.assertTrue(self.lets((word, more), same=True))
        for bent in [trees[:-1], trees[1:], trees + [SAME], trees[::-1], [SAME] * len(trees), tuple(trees), [], None,
                     trees[:3] + [SAME] + trees[4:], trees[:-1] + [None], trees[:-1] + [[]],
                     trees[:-1] + [tuple(trees[-1])]]:
            self.assertFalse(self.lets((word, bent), same=True), bent)
        word, trees, *tail = self.parts
        for bent in [trees[:-1], trees[1:], trees + [SAME], [SAME] * len(trees), trees[::-1], tuple(trees), [], None,
                     [SAME] * 9,
                     trees[:-1] + [None]]:
            self.assertFalse(self.lets((word, bent, *tail)), bent)

    def test_beat_window_rows_word(self):
        word, trees, beat, place, rows = self.parts
        for rows in [("a", "a"), ("b", "b"), ("a", "b")]:
            # Whatever stands there, the laid signs differ.
            self.assertTrue(self.lets((word, trees, beat, place, rows)))
        for bent in [1, 3, -2, 2.0, True, None, "2", [2]]:
            self.assertFalse(self.lets((word, trees, bent, place, rows)), bent)
        for bent in [B, ("a", False), ("a", 1), ["a", 0], "a", None, ("a", 0.0), *odd_things()]:
            self.assertFalse(self.lets((word, trees, beat, bent, rows)), bent)
        for bent in [("a",), ["a", "a"], ("a", "c"), ("aa", "a"), None, "aa", *odd_things()]:
            self.assertFalse(self.lets((word, trees, beat, place, bent)), bent)
        for bent in ["alike", "echoes", "part", None, 0, ["parts"], *odd_things()]:
            self.assertFalse(self.lets((bent, trees, beat, place, rows)), bent)
            self.assertFalse(self.lets((bent if bent != "alike" else "parts", self.alike[1]), same=True), bent)

    def test_rows_that_do_not_show_it(self):
        one, other = two(FLIP2), two(KEEP2)
        told = alike(one, other, [A, B], 2)
        self.assertEqual((told[2:4], told[4][0]), ((1, B), "b"))
        for rows in all_rows(one.work()):
            self.assertIs(shows_alike(one, other, [A, B], 2, (*told[:4], rows)), rows[0] == "b")

    def test_anything(self):
        for thing in odd_things() + [list(self.parts), self.parts[:4], (*self.parts, None), self.parts[:2], ("alike",),
                                     ("alike", None), ("parts", None, 2, A, ("a", "a")), self.parts[0], self.parts[1]]:
            self.assertFalse(self.lets(thing), thing)
            self.assertFalse(self.lets(thing, same=True), thing)

    def test_of_no_windows(self):
        self.assertTrue(shows_alike(self.one, self.other, [], 3, ("alike", [])))
        self.assertFalse(shows_alike(self.one, self.other, [], 3, ("alike", [SAME])))
        self.assertFalse(shows_alike(self.one, self.other, [], 3, ("parts", [], 0, A, ("a", "a"))))

    def test_a_part_told_behind_the_last_beat(self):
        self.assertFalse(shows_alike(self.one, self.other, [A, B], 1, self.parts))
        self.assertTrue(shows_alike(self.one, self.other, [A, B], 2, self.parts))


class Echoes(Refusals):

    WHEEL = Course(Work("ab", [Band("a", 5, pace=2), Band("b", 3)]))

    def test_a_band_that_nothing_prints_on(self):
        for delay in range(4):
            there = ("a", (3 - 2 * delay) % 5)
            self.assertEqual(echoes(self.WHEEL, ("a", 3), there, delay, 9), ("echoes", [SAME] * (10 - delay)))
            other = ("a", (4 - 2 * delay) % 5)
            told = echoes(self.WHEEL, ("a", 3), other, delay, 9)
            self.assertEqual(told[:3], ("parts", [], delay))
            self.assertNotEqual(seen_at(self.WHEEL, told[3], (delay, ("a", 3))),
                                seen_at(self.WHEEL, told[3], (0, other)))

    def test_one_place_as_another(self):
        self.assertEqual(echoes(self.WHEEL, ("a", 3), ("a", 3), 0, 4), ("echoes", [SAME] * 5))
        self.assertEqual(echoes(self.WHEEL, ("b", 1), ("b", 1), 4, 4), ("echoes", [SAME]))
        self.assertEqual(echoes(self.WHEEL, ("a", 3), ("a", 4), 0, 4)[:3], ("parts", [], 0))
        self.assertEqual(echoes(self.WHEEL, ("a", 3), ("a", 3), 4, 4)[:3], ("parts", [], 4))

    def test_it_parts_later(self):
        course = Course(Work("ab", [Band("a", 2, pace=1)]), puts=[(4, ("a", 0), "b")])
        told = echoes(course, ("a", 1), ("a", 0), 1, 6)
        self.assertEqual(told, ("echoes", [SAME] * 6))
        told = echoes(course, ("a", 0), ("a", 0), 2, 6)
        self.assertEqual((told[0], told[1], told[2]), ("parts", [SAME, SAME], 4))
        self.assertEqual(echoes(course, ("a", 0), ("a", 0), 2, 6, begin=10)[0], "echoes")
        told = echoes(course, ("a", 0), ("a", 0), 2, 6, begin=1)
        self.assertEqual((told[0], told[1], told[2]), ("parts", [SAME], 4))

    def test_a_press_that_copies(self):
        work = Work("ab", [Band("a", 4, pace=1), Band("b", 1)], [Press(("a", 2), B, ("aa", "bb"))])
        told = echoes(Course(work), B, ("a", 1), 1, 9)
        self.assertEqual(told[0], "echoes")
        self.assertEqual(told[1][0], [("split", ("a", 1), (("a", 1), ("b", 2))), ("same",), ("same",)])
        self.assertEqual(echoes(Course(work), B, ("a", 2), 1, 9)[0], "parts")
        self.assertEqual(echoes(Course(work), B, ("a", 2), 0, 9)[:3], ("parts", [], 0))

    def test_beside_both_show(self):
        words = []
        for chance in chances(60, 113):
            work = some_work(chance, longs=(2, 3), presses=2, signs=("ab", "abc"))
            course = some_course(chance, work, last=5)
            begin, beats = chance.choice([0, 0, 3]), chance.randint(0, 5)
            delay = chance.randint(0, beats)
            place = chance.choice(work.places())
            band = [each for each in work.bands() if each.called() == place[0]][0]
            other = chance.choice([(place[0], (place[1] - delay * band.pace()) % band.long()),
                                   chance.choice(work.places())])
            due, trees = None, []
            for beat in range(begin + delay, begin + beats + 1):
                word, told = both_show(course, (beat, place), course, (beat - delay, other), begin=begin)
                if word == "unlike":
                    due = ("parts", trees, beat, told)
                    break
                trees.append(told)
            due = due or ("echoes", trees)
            words.append(due[0])
            self.assertEqual(echoes(course, place, other, delay, beats, begin=begin), due)
            self.assertTrue(shows_echoes(course, place, other, delay, beats, due, begin=begin))
        self.assertGreater(min(words.count("echoes"), words.count("parts")), 10)

    def test_refused(self):
        course, place = Course(small_work()), ("one", 0)
        for call, more in [(echoes, ()), (shows_echoes, (None,))]:
            for odd in ODD_PLACES:
                self.refused(NoPlace, {"place": odd}, call, course, odd, None, -1, -1, *more)
                self.refused(NoPlace, {"place": odd}, call, course, place, odd, -1, -1, *more)
            for beats in [*ODD_BEATS, DEEPEST + 1]:
                self.refused(NoBeat, {"beat": beats}, call, course, place, place, -2, beats, *more)
            for delay in [*ODD_BEATS, 6, DEEPEST + 1]:
                self.refused(NoBeat, {"beat": delay}, call, course, place, place, delay, 5, *more)
            self.refused(NoBeat, {"beat": 61}, call, course, place, place, 61, DEEPEST, *more)
            self.refused(NoBeat, {"beat": 1}, call, course, place, place, 1, 0, *more)
        self.assertEqual(echoes(course, place, place, 0, 0), ("echoes", [SAME]))
        self.assertEqual(echoes(course, place, place, DEEPEST, DEEPEST), ("echoes", [SAME]))
        self.assertEqual(len(echoes(course, place, place, 0, DEEPEST)[1]), 61)

    def test_too_many(self):
        course, look = many_reads(4)
        self.refused(TooMany, {"many": 200}, echoes, course, look[1], look[1], 0, 2)
        self.assertEqual(echoes(course, look[1], look[1], 0, 1)[0], "echoes")
        self.assertIs(shows_echoes(course, look[1], look[1], 0, 2, ("echoes", [SAME] * 3)), False)

    def test_by_places_and_by_names(self):
        told = echoes(course=self.WHEEL, place=("a", 3), other=("a", 1), delay=1, beats=2, begin=FAR // 10)
        self.assertEqual(told, ("echoes", [SAME, SAME]))
        self.assertTrue(shows_echoes(course=self.WHEEL, place=("a", 3), other=("a", 1), delay=1, beats=2, thing=told,
                                     begin=FAR // 10))
        self.assertRaises(TypeError, echoes, self.WHEEL, ("a", 3), ("a", 1), 1, 2, 0)
        self.assertRaises(TypeError, shows_echoes, self.WHEEL, ("a", 3), ("a", 1), 1, 2, told, 0)
        told[1][0].clear()
        self.assertEqual(told[1][1], SAME)
        self.assertEqual(echoes(self.WHEEL, ("a", 3), ("a", 1), 1, 2), ("echoes", [SAME, SAME]))


class LooksAtEchoes(Refusals):

    COURSE = Course(Work("ab", [Band("a", 2, pace=1)]), puts=[(4, ("a", 0), "b")])

    def lets(self, thing, delay=2, beats=6):
        """What the look says of a thing, of one place that showed the same two beats ahead."""
        told = shows_echoes(self.COURSE, ("a", 0), ("a", 0), delay, beats, thing)
        self.assertIsInstance(told, bool)
        return told

    def test_parts(self):
        good = ("parts", [SAME, SAME], 4, ("aa",))
        self.assertTrue(self.lets(good))
        self.assertTrue(self.lets(("parts", [SAME, SAME], 4, ("ab",))))
        # Of the other place it is that was laid, so what stood there isn't seen.
        self.assertEqual(echoes(self.COURSE, ("a", 0), ("a", 0), 2, 6)[:3], good[:3])
        for rows in [("ba",), ("bb",), ("a",), ["aa"], None, ("ac",)]:
            self.assertFalse(self.lets(("parts", [SAME, SAME], 4, rows)), rows)
        for beat in [3, 2, 5, 4.0, "4", None, True]:
            self.assertFalse(self.lets(("parts", [SAME, SAME], beat, ("aa",))), beat)
        for trees in [[SAME], [SAME] * 3, [], (SAME, SAME), None, [SAME, []], [SAME, None]]:
            self.assertFalse(self.lets(("parts", trees, 4, ("aa",))), trees)
        for thing in [list(good), good[:3], (*good, None), ("echoes", *good[1:]),
                      ("parts", [SAME, SAME], 4, ("a", 0), ("aa",)),
                      *odd_things()]:
            self.assertFalse(self.lets(thing), thing)
        self.assertFalse(self.lets(good, beats=3))
        self.assertTrue(self.lets(good, beats=4))

    def test_echoes(self):
        self.assertTrue(self.lets(("echoes", [SAME, SAME]), beats=3))
        self.assertTrue(self.lets(("echoes", [SAME, [("split", ("a", 1), (("b", 1), ("a", 2))), *SAME, *SAME]]),
                                  beats=3))
        for thing in [("echoes", [SAME]), ("echoes", [SAME] * 3), ("echoes", (SAME, SAME)), ("alike", [SAME, SAME]),
                      ("echoes",),
                      ["echoes", [SAME, SAME]], ("echoes", [SAME, SAME], 0), ("echoes", None), ("parts", [SAME, SAME]),
                      *odd_things()]:
            self.assertFalse(self.lets(thing, beats=3), thing)
        self.assertFalse(self.lets(("echoes", [SAME] * 5)))


if __name__ == "__main__":
    unittest.main()
