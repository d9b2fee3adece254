"""Looks at whys: what they let by and what they don't."""

import unittest

from bandprint.bands import Band, Press, Work
from bandprint.courses import Course
from bandprint.errors import NoBeat, NoPlace, NoPress, NoRows
from bandprint.whylooks import shows_why
from bandprint.whys import why
from tests.samples import (FAR, FLIP2, MIXED_ROWS, Refusals, chances, mixed_course, odd_things, small_work,
                           some_course, some_rows, some_work)
from tests.test_rows import wrong_rows
from tests.test_whys import slow_whys

A, B = ("a", 0), ("b", 0)
ROWS = ("aba", "abba")


def made(work, sign, prints):
    """What prints make of a sign; None where one of one place reads another sign than it turns."""
    for _, number, read in prints:
        press = work.presses()[number]
        if press.above() == press.below() and read != sign:
            return None
        sign = press.table()[work.signs().index(read)][work.signs().index(sign)]
    return sign


def with_item(thing, at, *items):
    """A list or tuple with other items for one."""
    return thing[:at] + type(thing)(items) + thing[at + 1:]


def origins_beside(origin):
    """Origins that are unlike, as things of anything."""
    told = [list(origin), origin[:-1], (*origin, "a"), ("put",), None, (), with_item(origin, 0, "begin")]
    for at in range(len(origin)):
        for item in [None, True, 0, 1, "", "a", "b", "z", ("a", 0), ["a", 0], ("one", 0), 10 ** 9]:
            other = with_item(origin, at, item)
            if other != origin or repr(other) != repr(origin):
                told.append(other)
    return told


class Looks(Refusals):

    def let_by(self, due, course, rows, place, beat, *things, begin=0, ahead=None):
        """What a look tells of things."""
        for thing in things:
            told = shows_why(course, rows, place, beat, thing, begin=begin, ahead=ahead)
            self.assertIs(told, due, thing)

    def test_the_told_why(self):
        for chance in chances(40, 281):
            work = some_work(chance, presses=8)
            begin = chance.choice([0, 0, 3, FAR // 10])
            course = some_course(chance, work, first=begin, last=begin + 12)
            rows = some_rows(chance, work)
            for (beat, ahead), told in slow_whys(course, rows, 9, begin).items():
                for place in work.places():
                    self.let_by(True, course, rows, place, beat, told[place], begin=begin, ahead=ahead)

    def test_by_names(self):
        course = Course(small_work())
        thing = why(course, ROWS, ("two", 0), 1)
        self.assertIs(shows_why(course=course, rows=ROWS, place=("two", 0), beat=1, thing=thing, begin=0, ahead=None),
                      True)
        self.assertRaises(TypeError, shows_why, course, ROWS, ("two", 0), 1, thing, 0)

    def test_anything(self):
        course = mixed_course()
        told = why(course, MIXED_ROWS, ("c", 1), 7)
        self.assertGreater(len(told[1]), 1)
        self.let_by(False, course, MIXED_ROWS, ("c", 1), 7, *odd_things(), list(told), told[:2], (*told, None),
                    told[::-1], told[1], told[0], (told,))

    def test_the_origin_otherwise(self):
        course = mixed_course()
        for place, beat in [(("c", 1), 7), (("e", 0), 5), (("ab", 4), 9), (("d", 3), 11)]:
            told = why(course, MIXED_ROWS, place, beat)
            self.let_by(True, course, MIXED_ROWS, place, beat, told)
            for origin in origins_beside(told[0]):
                self.let_by(False, course, MIXED_ROWS, place, beat, (origin, told[1], told[2]))
        # True is no 1.
        course = Course(small_work(), puts=[(1, ("one", 1), "b")])
        self.let_by(True, course, ROWS, ("one", 1), 1, (("put", 1, ("one", 1), "b"), [], "b"))
        self.let_by(False, course, ROWS, ("one", 1), 1, (("put", True, ("one", 1), "b"), [], "b"),
                    (("put", 1, ("one", True), "b"), [], "b"), (("put", 1.0, ("one", 1), "b"), [], "b"))

    def test_prints_otherwise(self):
        course, place, beat = mixed_course(), ("ab", 4), 9
        origin, prints, sign = why(course, MIXED_ROWS, place, beat)
        self.assertGreater(len(prints), 1)
        self.let_by(True, course, MIXED_ROWS, place, beat, (origin, list(prints), sign))
        wrong = [tuple(prints), prints[:-1], prints[1:], prints + prints[-1:], prints[::-1], [], None,
                 prints[:1] + prints, [*prints, (9, 0, "a")]]
        for at, each in enumerate(prints):
            wrong.append(with_item(prints, at))
            wrong += [with_item(prints, at, other) for other in [list(each), None, 5, "abc", {}, (each,)]]
            wrong.append(with_item(prints, at, each[:2]))
            wrong.append(with_item(prints, at, (*each, "a")))
            for item in range(3):
                for other in [None, True, False, -1, 0, 1, 2, 3, 4, 10, 1.0, "", "z", "ab", ["a"], (each[item],)]:
                    changed = with_item(each, item, other)
                    if repr(changed) != repr(each):
                        wrong.append(with_item(prints, at, changed))
        for other in wrong:
            self.let_by(False, course, MIXED_ROWS, place, beat, (origin, other, sign))

    def test_true_is_no_number_of_a_print(self):
        work = Work("ab", [Band("a", 1), Band("b", 1)], [Press(A, B, FLIP2), Press(A, B, FLIP2)])
        told = (("begins", B, "a"), [(1, 0, "b"), (1, 1, "b")], "a")
        self.let_by(True, Course(work), ("b", "a"), B, 1, told)
        for prints in [[(True, 0, "b"), (1, 1, "b")], [(1, False, "b"), (1, 1, "b")], [(1, 0, "b"), (1, True, "b")],
                       [(1, 0.0, "b"), (1, 1, "b")]]:
            self.let_by(False, Course(work), ("b", "a"), B, 1, (told[0], prints, "a"))

    def test_the_sign_otherwise(self):
        course, place, beat = mixed_course(), ("ab", 4), 9
        origin, prints, sign = why(course, MIXED_ROWS, place, beat)
        for other in [*"abcz", None, True, "", 0, ["a"], ("a",), sign + sign, [sign]]:
            self.let_by(other == sign, course, MIXED_ROWS, place, beat, (origin, prints, other))

    def test_reads_otherwise_with_the_sign_that_follows(self):
        strange = 0
        for chance in chances(120, 282):
            work = some_work(chance, presses=8)
            course, rows = some_course(chance, work), some_rows(chance, work)
            place, beat = chance.choice(work.places()), chance.randint(1, 6)
            origin, prints, _ = why(course, rows, place, beat)
            reads = [(at, press, chance.choice(work.signs())) for at, press, _ in prints]
            due = made(work, origin[-1], reads)
            strange += due is not None and reads != prints
            for sign in [*work.signs(), None]:
                self.let_by(due is not None and sign == due, course, rows, place, beat, (origin, reads, sign))
        self.assertGreater(strange, 20)

    def test_of_one_place_the_read_is_the_sign_by_then(self):
        work = Work("ab", [Band("a", 1)], [Press(A, A, ("bb", "aa"))])
        course = Course(work)
        self.let_by(True, course, ("a",), A, 2, (("begins", A, "a"), [(1, 0, "a"), (2, 0, "b")], "a"))
        self.let_by(False, course, ("a",), A, 2, (("begins", A, "a"), [(1, 0, "b"), (2, 0, "b")], "a"),
                    (("begins", A, "a"), [(1, 0, "a"), (2, 0, "a")], "b"),
                    (("begins", A, "a"), [(1, 0, "b"), (2, 0, "b")], None))

    def test_it_runs_nothing(self):
        # The reads may be wrong all together, wherever a run would know better.
        course = Course(small_work())
        self.let_by(True, course, ROWS, ("two", 0), 1, (("begins", ("two", 1), "b"), [(1, 0, "a")], "b"),
                    (("begins", ("two", 1), "b"), [(1, 0, "b")], "a"))

    def test_whys_of_all_that_was_read_show_a_run_as_a_whole(self):
        course = mixed_course()
        seen, front = set(), [(("d", 3), 12, None)]
        while front:
            place, beat, ahead = front.pop()
            if (place, beat, ahead) in seen:
                continue
            seen.add((place, beat, ahead))
            told = why(course, MIXED_ROWS, place, beat, ahead=ahead)
            self.let_by(True, course, MIXED_ROWS, place, beat, told, ahead=ahead)
            for at, press, read in told[1]:
                above = course.work().presses()[press].above()
                self.assertEqual(why(course, MIXED_ROWS, above, at, ahead=press)[2], read)
                front.append((above, at, press))
        self.assertGreater(len(seen), 20)


class RefusedLooks(Refusals):

    def test_in_order_ahead_of_the_thing(self):
        course, spot = Course(small_work()), ("two", 0)
        for thing in [None, why(course, ROWS, spot, 1)]:
            for rows, number in wrong_rows():
                self.refused(NoRows, {"number": number}, shows_why, course, rows, None, None, thing, ahead="x")
            self.refused(NoPlace, {"place": ("two", 4)}, shows_why, course, ROWS, ("two", 4), -1, thing, ahead="x")
            for beat in [-1, 1001, True, None, "1", 1.0]:
                self.refused(NoBeat, {"beat": beat}, shows_why, course, ROWS, spot, beat, thing, ahead="x")
            for ahead in [1, -1, True, "0", [], (0,)]:
                self.refused(NoPress, {"field": "press"}, shows_why, course, ROWS, spot, 1, thing, ahead=ahead)
            self.refused(NoPress, {"field": "press"}, shows_why, course, ROWS, spot, 5, thing, begin=5, ahead=0)

    def test_nothing_is_changed(self):
        course = mixed_course()
        told = why(course, MIXED_ROWS, ("ab", 4), 9)
        prints = list(told[1])
        shows_why(course, MIXED_ROWS, ("ab", 4), 9, told)
        self.assertEqual(told[1], prints)


if __name__ == "__main__":
    unittest.main()
