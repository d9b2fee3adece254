"""Works beside one another, a course apart, a band wound."""

import unittest

from bandprint.bands import Band, Press, Work
from bandprint.beats import run
from bandprint.courses import Course
from bandprint.errors import NoChange, NoWork
from bandprint.joins import apart, beside, wound
from tests.samples import (FLIP2, KEEP2, MIXED_ROWS, Refusals, chances, mixed_work, odd_things, slow_run, small_work,
                           some_course, some_rows, some_work, wheels)

FLIP3 = ("bca", "cab", "abc")


def named(work, names):
    """A work with other names for its bands, in order."""
    other = {band.called(): name for band, name in zip(work.bands(), names)}
    bands = [Band(other[band.called()], band.long(), pace=band.pace()) for band in work.bands()]
    presses = [Press((other[press.above()[0]], press.above()[1]), (other[press.below()[0]], press.below()[1]),
                     press.table(), rhythm=press.rhythm()) for press in work.presses()]
    return Work(work.signs(), bands, presses)


def pressed(many, name="a"):
    """A work of one band of this name and so many presses."""
    return Work("ab", [Band(name, 2)], [Press((name, 0), (name, 1), FLIP2)] * many)


def bound(names, pairs, longs=2):
    """A course of bands of these names with a press for each pair of names."""
    bands = [Band(name, longs, pace=1) for name in names]
    return Course(Work("ab", bands, [Press((one, 0), (other, 1), FLIP2) for one, other in pairs]))


class Beside(Refusals):

    def test_by_hand(self):
        one, other = small_work(), named(mixed_work(), ["x", "y", "z", "w"])
        self.refused(NoWork, {"field": "signs"}, beside, one, other)
        one = Work("abc", [Band("one", 2, pace=3)], [Press(("one", 0), ("one", 1), FLIP3, rhythm="-x")])
        whole = beside(one, other)
        self.assertEqual(whole, Work("abc", one.bands() + other.bands(), one.presses() + other.presses()))
        self.assertEqual([band.called() for band in whole.bands()], ["one", "x", "y", "z", "w"])
        self.assertEqual(whole.presses()[0], one.presses()[0])
        self.assertEqual(beside(one=other, other=one), Work("abc", other.bands() + one.bands(),
                                                            other.presses() + one.presses()))
        self.assertNotEqual(beside(other, one), whole)

    def test_it_runs_as_both_do(self):
        for chance in chances(40, 201):
            signs = chance.choice(["ab", "abc"])
            one = some_work(chance, signs=(signs,))
            other = named(some_work(chance, signs=(signs,)), ["x", "y", "z"])
            rows, others = some_rows(chance, one), some_rows(chance, other)
            whole = run(Course(beside(one, other)), rows + others, 12)
            due = zip(slow_run(Course(one), rows, 12), slow_run(Course(other), others, 12))
            self.assertEqual(whole, [here + there for here, there in due])
            self.assertEqual((one, other), (Work(signs, one.bands(), one.presses()),
                                            Work(signs, other.bands(), other.presses())))

    def test_refused(self):
        # Unlike signs go ahead of all, whatever else is wrong.
        self.refused(NoWork, {"field": "signs"}, beside, wheels((12, 12)), wheels((12, 12), signs="ac"))
        self.refused(NoWork, {"field": "signs"}, beside, wheels((2,)), wheels((2,), signs="abc"))
        self.refused(NoWork, {"field": "bands"}, beside, small_work(), small_work())
        self.refused(NoWork, {"field": "bands"}, beside, pressed(8), pressed(8))

    def test_the_bounds(self):
        three, four = wheels((1, 1, 1)), named(wheels((1, 1, 1, 1)), "wxyz")
        self.refused(NoWork, {"field": "bands"}, beside, three, four)
        six = beside(three, named(three, "xyz"))
        self.assertEqual(len(six.bands()), 6)
        forty = beside(wheels((12, 12)), named(wheels((12, 4)), "xy"))
        self.assertEqual(len(forty), 40)
        self.refused(NoWork, {"field": "bands"}, beside, wheels((12, 12)), named(wheels((12, 5)), "xy"))
        self.assertEqual(len(beside(pressed(5), pressed(3, "b")).presses()), 8)
        self.refused(NoWork, {"field": "presses"}, beside, pressed(5), pressed(4, "b"))


def slow_parts(work):
    """The numbers of the bands that presses bind, band by band."""
    numbers = {band.called(): at for at, band in enumerate(work.bands())}
    found, seen = [], set()
    for first in range(len(work.bands())):
        if first in seen:
            continue
        part, front = set(), {first}
        while front:
            part |= front
            front = {numbers[side[0]] for press in work.presses() for side in (press.above(), press.below())
                     if {numbers[press.above()[0]], numbers[press.below()[0]]} & part} - part
        seen |= part
        found.append(tuple(sorted(part)))
    return found


def picked(things, numbers):
    """The things of these numbers."""
    return tuple(things[number] for number in numbers)


class Apart(Refusals):

    def test_one_step_and_several(self):
        self.assertEqual([each[:2] for each in apart(bound("abc", []))], [((0,), ()), ((1,), ()), ((2,), ())])
        self.assertEqual([each[:2] for each in apart(bound("abc", ["ac"]))], [((0, 2), (0,)), ((1,), ())])
        self.assertEqual([each[:2] for each in apart(bound("abc", ["ca"]))], [((0, 2), (0,)), ((1,), ())])
        self.assertEqual([each[:2] for each in apart(bound("abcdef", ["fd", "bc", "db"]))],
                         [((0,), ()), ((1, 2, 3, 5), (0, 1, 2)), ((4,), ())])
        self.assertEqual([each[:2] for each in apart(bound("abcdef", ["ef", "cd", "ab", "fa", "bb", "dc"]))],
                         [((0, 1, 4, 5), (0, 2, 3, 4)), ((2, 3), (1, 5))])
        self.assertEqual([each[:2] for each in apart(bound("abc", ["bb", "bb"]))],
                         [((0,), ()), ((1,), (0, 1)), ((2,), ())])
        self.assertEqual([each[:2] for each in apart(course=Course(mixed_work()))],
                         [((0, 1, 2, 3), (0, 1, 2, 3, 4, 5))])

    def test_puts_and_lifts(self):
        work = bound("abcd", ["db", "aa", "cc", "bd", "aa"]).work()
        puts = [(5, ("b", 0), "a"), (2, ("a", 1), "b"), (9, ("d", 1), "b"), (1, ("b", 0), "b")]
        lifts = [(4, 3, "up"), (0, 4, "up"), (7, 0, "down"), (3, 1, "up"), (2, 3, "down")]
        told = apart(Course(work, puts=puts, lifts=lifts))
        bands, presses = work.bands(), work.presses()
        self.assertEqual(told, [
            ((0,), (1, 4), Course(Work("ab", bands[:1], [presses[1], presses[4]]), puts=[puts[1]],
                                  lifts=[(0, 1, "up"), (3, 0, "up")])),
            ((1, 3), (0, 3), Course(Work("ab", [bands[1], bands[3]], [presses[0], presses[3]]),
                                    puts=[puts[0], puts[2], puts[3]],
                                    lifts=[(4, 1, "up"), (7, 0, "down"), (2, 1, "down")])),
            ((2,), (2,), Course(Work("ab", bands[2:3], presses[2:3])))])

    def test_each_part_runs_as_in_the_whole(self):
        for chance in chances(80, 202):
            work = some_work(chance, presses=chance.choice([1, 2, 4]))
            more = named(some_work(chance, presses=3, signs=(work.signs(),)), "xyz")
            course = some_course(chance, beside(work, more))
            rows = some_rows(chance, course.work())
            told = apart(course)
            self.assertEqual([bands for bands, _, _ in told], slow_parts(course.work()))
            whole = slow_run(course, rows, 14)
            for bands, presses, part in told:
                self.assertEqual(part.work(), Work(work.signs(), picked(course.work().bands(), bands),
                                                   picked(course.work().presses(), presses)))
                self.assertEqual(run(part, picked(rows, bands), 14), [picked(each, bands) for each in whole])
            self.assertEqual(sorted(number for _, presses, _ in told for number in presses),
                             list(range(len(course.work().presses()))))

    def test_one_part_alone_is_the_course(self):
        course = bound("ab", ["ab"])
        self.assertEqual(apart(course), [((0, 1), (0,), course)])

    def test_what_is_told_is_the_askers_own(self):
        course = bound("abc", ["ab"])
        apart(course).clear()
        self.assertEqual(len(apart(course)), 2)
        self.assertEqual(course, bound("abc", ["ab"]))


class Wound(Refusals):

    def test_by_hand(self):
        bands = [Band("a", 3, pace=-4), Band("b", 4, pace=1)]
        presses = [Press(("b", 1), ("a", 2), FLIP2, rhythm="x-"), Press(("a", 1), ("a", 0), KEEP2),
                   Press(("a", 2), ("b", 3), FLIP2), Press(("b", 0), ("b", 2), FLIP2, rhythm="-x"),
                   Press(("a", 1), ("a", 1), FLIP2)]
        twice = wound(Work("ab", bands, presses), "a", 2)
        self.assertEqual(twice, Work("ab", [Band("a", 6, pace=-4), bands[1]], [
            Press(("b", 1), ("a", 2), FLIP2, rhythm="x-"), Press(("b", 1), ("a", 5), FLIP2, rhythm="x-"),
            Press(("a", 1), ("a", 0), KEEP2), Press(("a", 4), ("a", 3), KEEP2), presses[2], presses[3],
            Press(("a", 1), ("a", 1), FLIP2), Press(("a", 4), ("a", 4), FLIP2)]))
        self.assertEqual(wound(work=Work("ab", bands, presses), name="b", times=2).presses(), [
            *presses[:2], *[Press(("a", 2), ("b", at), FLIP2) for at in (3, 7)],
            *[Press(("b", at), ("b", at + 2), FLIP2, rhythm="-x") for at in (0, 4)], presses[4]])

    def test_once_is_the_same(self):
        for work, name in [(small_work(), "one"), (small_work(), "two"), (mixed_work(), "e")]:
            self.assertEqual(wound(work, name, 1), work)

    def test_it_runs_as_ahead(self):
        done = 0
        for chance in chances(80, 203):
            course = some_course(chance, some_work(chance, longs=(1, 2, 3, 6), presses=3))
            work = course.work()
            name, times = chance.choice(work.bands()).called(), chance.randint(1, 4)
            rows = some_rows(chance, work)
            try:
                other = wound(work, name, times)
            except NoWork:
                continue
            done += 1
            number = [band.called() for band in work.bands()].index(name)
            wide = [each[:number] + (each[number] * times,) + each[number + 1:] for each in slow_run(course, rows, 12)]
            self.assertEqual([band.called() for band in other.bands()], [band.called() for band in work.bands()])
            # Puts are laid so many times, lifts lift all that a press has become.
            puts = [(beat, (place[0], place[1] + turn * work.bands()[number].long()), sign)
                    for beat, place, sign in course.puts() for turn in range(times if place[0] == name else 1)]
            starts, at = [], 0
            for press in work.presses():
                many = times if press.below()[0] == name else 1
                starts.append(range(at, at + many))
                at += many
            lifts = [(beat, each, word) for beat, press, word in course.lifts() for each in starts[press]]
            if len(puts) + len(lifts) <= 12:
                self.assertEqual(run(Course(other, puts=puts, lifts=lifts), wide[0], 12), wide)
        self.assertGreater(done, 40)

    def test_as_far_as_the_bounds_let_it(self):
        self.assertEqual(wound(wheels((2,)), "a", 6), wheels((12,)))
        self.refused(NoWork, {"field": "bands"}, wound, wheels((2,)), "a", 7)
        self.refused(NoWork, {"field": "bands"}, wound, wheels((5,)), "a", 3)
        self.assertEqual(wound(wheels((12, 12, 10, 2)), "d", 3), wheels((12, 12, 10, 6)))
        self.refused(NoWork, {"field": "bands"}, wound, wheels((12, 12, 10, 2)), "d", 4)
        self.assertEqual(len(wound(pressed(2), "a", 4).presses()), 8)
        self.refused(NoWork, {"field": "presses"}, wound, pressed(2), "a", 5)
        self.refused(NoWork, {"field": "presses"}, wound, pressed(5), "a", 2)
        self.refused(NoWork, {"field": "bands"}, wound, pressed(5), "a", 7)
        above = Work("ab", [Band("a", 1), Band("b", 1)], [Press(("a", 0), ("b", 0), FLIP2)] * 8)
        self.assertEqual(wound(above, "a", 12).presses(), above.presses())

    def test_times_that_are_none(self):
        for times in [0, -1, -12, True, False, 1.0, 2.0, None, "2", 10 ** 30, *odd_things()]:
            self.refused(NoWork, {"field": "bands"}, wound, small_work(), "one", times)

    def test_no_name_goes_ahead(self):
        for name in odd_things():
            self.refused(NoChange, {"change": name}, wound, mixed_work(), name, 0)
        for name in ["a", "ones", "One", "two "]:
            for times in (1, 0, None):
                self.refused(NoChange, {"change": name}, wound, small_work(), name, times)
        name = ["one", [0]]
        with self.assertRaises(NoChange) as caught:
            wound(small_work(), name, 2)
        name[1].append(1)
        self.assertEqual(caught.exception.change, ["one", [0]])

    def test_the_elder_stays(self):
        work = mixed_work()
        wound(work, "e", 1)
        self.assertEqual(work, mixed_work())
        self.assertEqual(len(MIXED_ROWS), len(work.bands()))


if __name__ == "__main__":
    unittest.main()
