"""Classes of the beginnings of small works by windows, the hardest two, two works for ever."""

import unittest

from bandprint.bands import Band, Press, Work
from bandprint.beats import run
from bandprint.classes import classes, for_ever, hardest
from bandprint.courses import Course
from bandprint.errors import NoPlace, TooMany
from bandprint.firsts import told_apart
from bandprint.lossless import turned_back
from tests.samples import FLIP2, KEEP2, Refusals, chances, mixed_work, slow_run, some_rows, some_work, wheels
from tests.slowcases import place_sign
from tests.test_web import all_rows, stands_of


def stands(work):
    """How many stands a work has."""
    return len(work.signs()) ** len(work) * work.common()


def few(chance, most):
    """A work by chance of at most so many stands."""
    while True:
        work = some_work(chance, longs=(1, 2, 3), signs=("ab", "ab", "acx"))
        if stands(work) <= most:
            return work


def some_windows(chance, work):
    """Windows by chance, none of them too."""
    return chance.choice([list, tuple])(chance.choice(work.places()) for _ in range(chance.choice([0, 1, 1, 2])))


def showings(work, windows, beats):
    """For each beginning, rising, what the windows show behind each of so many beats."""
    return {rows: [[place_sign(work, each, place) for place in windows] for each in slow_run(Course(work), rows, beats)]
            for rows in all_rows(work)}


def first_unlike(one, other):
    """The first number at which two lists are unlike, or None."""
    return next((at for at, (each, there) in enumerate(zip(one, other)) if each != there), None)


def other_of(chance, work):
    """A work of the same bands and signs, but for paces and presses; sometimes one that runs nearly as it does."""
    if chance.random() < 0.4:
        bands = [Band(band.called(), band.long(), pace=band.pace() % band.long()) for band in work.bands()]
        return Work(work.signs(), bands, [Press(each.above(), each.below(), each.table(), rhythm=each.rhythm()[:3] * 2)
                                          for each in work.presses()])
    presses = work.presses()
    if presses and chance.random() < 0.7:
        at = chance.randrange(len(presses))
        text = "".join(chance.choice(work.signs()) for _ in work.signs())
        table = list(presses[at].table())
        table[chance.randrange(len(table))] = text
        presses[at] = Press(presses[at].above(), presses[at].below(), tuple(table), rhythm=presses[at].rhythm())
        return Work(work.signs(), work.bands(), presses)
    return Work(work.signs(), work.bands(), presses[1:])


class Classes(Refusals):

    def test_by_hand(self):
        wheel = wheels((2,))
        self.assertEqual(classes(wheel, [("a", 0)]), [[("aa",)], [("ab",)], [("ba",)], [("bb",)]])
        two = Work("ab", [Band("a", 1), Band("b", 1)], [Press(("a", 0), ("b", 0), ("ab", "aa"))])
        self.assertEqual(classes(two, [("a", 0)]), [[("a", "a"), ("a", "b")], [("b", "a"), ("b", "b")]])
        # b stands for ever where a has a; where a has b it is wiped out behind one beat.
        self.assertEqual(classes(work=two, windows=(("b", 0),)), [[("a", "a"), ("b", "a")], [("a", "b")], [("b", "b")]])
        still = Work("ab", [Band("a", 1), Band("b", 1)])
        self.assertEqual(classes(still, [("b", 0)]), [[("a", "a"), ("b", "a")], [("a", "b"), ("b", "b")]])

    def test_no_windows(self):
        self.assertEqual(classes(wheels((2,)), []), [[("aa",), ("ab",), ("ba",), ("bb",)]])
        self.assertEqual(classes(wheels((2,)), ()), classes(wheels((2,)), []))
        self.assertEqual(hardest(wheels((2,)), []), (0, None, None))

    def test_rests_count(self):
        # A press that reads at each third beat alone: what it reads is seen behind three beats, not ahead.
        work = Work("ab", [Band("a", 1), Band("b", 1)], [Press(("a", 0), ("b", 0), ("aa", "bb"), rhythm="--x")])
        self.assertEqual(len(classes(work, [("b", 0)])), 4)
        self.assertEqual(hardest(work, [("b", 0)])[0], 3)

    def test_beside_all_beginnings_run_on(self):
        most = 0
        for chance in chances(60, 231):
            work = few(chance, 120)
            windows = some_windows(chance, work)
            shown = showings(work, windows, stands(work))
            due = []
            for rows in shown:
                found = [each for each in due if shown[each[0]] == shown[rows]]
                if found:
                    found[0].append(rows)
                else:
                    due.append([rows])
            self.assertEqual(classes(work, windows), due)
            firsts = [first_unlike(shown[one], shown[other]) for one in shown for other in shown]
            beats = max((first for first in firsts if first is not None), default=None)
            told = hardest(work, windows)
            self.assertIs(type(told[0]), int)
            if beats is None:
                self.assertEqual(told, (0, None, None))
                continue
            most = max(most, beats)
            self.assertEqual(told[0], beats)
            self.assertEqual(told_apart(Course(work), told[1], told[2], windows), ("at", beats))
        self.assertGreater(most, 3)

    def test_many_stands(self):
        work = stands_of(["x----", "-x-"], 7)
        found = classes(work, [("a", 0)])
        self.assertEqual(len(found), 128)
        self.assertEqual(hardest(work, [("a", 0)])[0], 6)
        self.assertEqual(found, [[rows] for rows in all_rows(work)])

    def test_a_strange_window(self):
        for asked in (classes, hardest):
            self.refused(NoPlace, {"place": ("a", 2)}, asked, wheels((2,)), [("a", 0), ("a", 2)])
        self.refused(NoPlace, {"place": ("a", True)}, for_ever, wheels((2,)), wheels((2,)), [("a", True)])

    def test_too_many(self):
        for work, many in [(stands_of([], 11), 2048), (mixed_work(), 3 ** 13 * 6), (stands_of(["x"], 7, "abc"), 2187)]:
            for windows in ([], [("a", 0)]):
                self.refused(TooMany, {"many": many}, classes, work, windows)
                self.refused(TooMany, {"many": many}, hardest, work, windows)

    def test_what_is_told_is_the_askers_own(self):
        windows = [("a", 0)]
        told = classes(wheels((2,)), windows)
        told[0].clear()
        told.clear()
        self.assertEqual(len(classes(wheels((2,)), windows)), 4)
        self.assertEqual(windows, [("a", 0)])


class ForEver(Refusals):

    def test_by_hand(self):
        flips = Work("ab", [Band("a", 1), Band("b", 1)], [Press(("a", 0), ("b", 0), FLIP2, rhythm="-x")])
        still = Work("ab", [Band("a", 1), Band("b", 1)], [Press(("a", 0), ("b", 0), KEEP2, rhythm="--x")])
        self.assertEqual(for_ever(flips, still, [("a", 0)]), ("alike",))
        told = for_ever(flips, still, [("a", 0), ("b", 0)])
        self.assertEqual((told[:2], told[2][0]), (("apart", 2), "b"))
        told = for_ever(work=still, other=flips, windows=(("b", 0),))
        self.assertEqual((told[:2], told[2][0]), (("apart", 2), "b"))
        self.assertEqual(for_ever(flips, still, []), ("alike",))

    def test_other_rests(self):
        # Rhythms of other lengths that put the same presses down.
        one = Work("ab", [Band("a", 2, pace=1)], [Press(("a", 0), ("a", 1), FLIP2, rhythm="x-")])
        other = Work("ab", [Band("a", 2, pace=-1)], [Press(("a", 0), ("a", 1), FLIP2, rhythm="x-x-x-")])
        self.assertEqual(for_ever(one, other, one.places()), ("alike",))
        late = Work("ab", [Band("a", 2, pace=-1)], [Press(("a", 0), ("a", 1), FLIP2, rhythm="x-x-xx")])
        self.assertEqual(for_ever(one, late, one.places())[:2], ("apart", 6))

    def test_beside_all_beginnings_run_on(self):
        words = []
        for chance in chances(120, 232):
            work = few(chance, 60)
            other = other_of(chance, work)
            if stands(other) > 120:
                continue
            windows = some_windows(chance, work)
            beats = stands(work) * max(1, stands(other) // len(all_rows(other)))
            here, there = showings(work, windows, beats), showings(other, windows, beats)
            firsts = {rows: first_unlike(here[rows], there[rows]) for rows in here}
            least = min((first for first in firsts.values() if first is not None), default=None)
            told = for_ever(work, other, windows)
            words.append(told[0])
            for each in (told, for_ever(other, work, windows)):
                if least is None:
                    self.assertEqual(each, ("alike",))
                else:
                    self.assertEqual((each[:2], firsts[each[2]]), (("apart", least), least))
        self.assertGreater(min(words.count("alike"), words.count("apart")), 15)

    def test_turned_back_twice(self):
        work = Work("ab", [Band("a", 3, pace=1), Band("b", 2)],
                    [Press(("a", 0), ("b", 0), FLIP2, rhythm="x-"), Press(("b", 1), ("a", 2), FLIP2)])
        self.assertEqual(for_ever(work, turned_back(turned_back(work, 7), 7), work.places()), ("alike",))

    def test_many_stands(self):
        one, other = stands_of(["x----", "-x-"], 7), stands_of(["xx----", "x-"], 7)
        self.assertEqual(for_ever(one, other, [("a", 3)]), ("alike",))
        wiped = Work("ab", one.bands(), [Press(("a", 0), ("a", 6), ("ab", "aa"), rhythm="----x")])
        told = for_ever(one, wiped, [("a", 3)])
        # What is wiped out at place 6 behind beat 5 comes to place 3 behind four beats more.
        self.assertEqual(told[:2], ("apart", 9))
        rows = told[2]
        unlike = [place_sign(one, run(Course(each), rows, 9)[-1], ("a", 3)) for each in (one, wiped)]
        self.assertNotEqual(*unlike)

    def test_too_many(self):
        small, great = stands_of([], 10), stands_of(["xx"], 10)
        greater = stands_of(["xxx"], 10)
        self.refused(TooMany, {"many": 2048}, for_ever, small, great, [])
        self.refused(TooMany, {"many": 2048}, for_ever, great, small, [])
        self.refused(TooMany, {"many": 2048}, for_ever, great, greater, [("a", 0)])
        self.refused(TooMany, {"many": 3072}, for_ever, greater, great, [("a", 0)])
        self.assertEqual(for_ever(small, small, [("a", 0)]), ("alike",))
        self.assertEqual(len(some_rows(chances(1, 1)[0], small)), 1)


if __name__ == "__main__":
    unittest.main()
