"""Plain forms: paces, rhythms, presses left out and joined."""

import unittest

from bandprint.bands import Band, Press, Work
from bandprint.beats import run
from bandprint.classes import for_ever
from bandprint.courses import Course
from bandprint.plain import plain
from tests.samples import (FLIP2, KEEP2, Refusals, chances, mixed_work, slow_run, small_work, some_rows, some_work,
                           wheels)

A, B, C = ("a", 0), ("b", 0), ("b", 1)
COPY2 = ("aa", "bb")


def of_presses(*presses, signs="ab"):
    """A work of two small bands and these presses."""
    return Work(signs, [Band("a", 1), Band("b", 2)], presses)


def slow_left_out(signs, press):
    """Whether a press is to be left out: whatever stands there, it changes nothing."""
    if "x" not in press.rhythm():
        return True
    pairs = [(above, below) for above in signs for below in signs
             if press.above() != press.below() or above == below]
    return all(press.table()[signs.index(above)][signs.index(below)] == below for above, below in pairs)


def slow_plain(work):
    """The presses of the plain form and the numbers that each is made of, the longest way."""
    signs = work.signs()
    parts = []
    for number, press in enumerate(work.presses()):
        rhythm = press.rhythm()
        long = min(long for long in range(1, len(rhythm) + 1)
                   if len(rhythm) % long == 0 and rhythm[:long] * (len(rhythm) // long) == rhythm)
        parts.append((Press(press.above(), press.below(), press.table(), rhythm=rhythm[:long]), (number,)))
    while True:
        idle = [at for at, (press, _) in enumerate(parts) if slow_left_out(signs, press)]
        if idle:
            del parts[idle[0]]
            continue
        pairs = [at for at in range(len(parts) - 1)
                 if (parts[at][0].above(), parts[at][0].below(), parts[at][0].rhythm())
                 == (parts[at + 1][0].above(), parts[at + 1][0].below(), parts[at + 1][0].rhythm())
                 and parts[at][0].above() != parts[at][0].below()]
        if not pairs:
            return [press for press, _ in parts], [numbers for _, numbers in parts]
        (one, first), (two, second) = parts[pairs[0]:pairs[0] + 2]
        table = tuple("".join(two.table()[row][signs.index(sign)] for sign in one.table()[row])
                      for row in range(len(signs)))
        parts[pairs[0]:pairs[0] + 2] = [(Press(one.above(), one.below(), table, rhythm=one.rhythm()), first + second)]


def knotty_work(chance):
    """A work by chance of which much may be left out or joined."""
    signs = chance.choice(["ab", "ab", "abc"])
    bands = [Band("a", chance.choice([1, 2]), pace=chance.choice([0, 3, -1, 10 ** 12])), Band("b", 2, pace=1)]
    spots = [A, B, ("b", 1)]
    sides = [(chance.choice(spots), chance.choice(spots)) for _ in range(2)]
    presses = []
    for _ in range(chance.randint(0, 8)):
        above, below = chance.choice(sides)
        table = chance.choice([tuple(signs for _ in signs), tuple(signs[1:] + signs[0] for _ in signs),
                               tuple("".join(chance.sample(signs, len(signs))) for _ in signs),
                               tuple("".join(chance.choice(signs) for _ in signs) for _ in signs)])
        rhythm = chance.choice(["x", "xx", "x", "xxx", "x-", "x-x-", "-", "--"])
        presses.append(Press(above, below, table, rhythm=rhythm))
    return Work(signs, bands, presses)


class Plain(Refusals):

    def plain_of(self, *presses, signs="ab"):
        """The presses and numbers of a plain form, the bands of which stay."""
        work = of_presses(*presses, signs=signs)
        told, rows = plain(work)
        self.assertEqual((told.signs(), told.bands()), (work.signs(), work.bands()))
        return told.presses(), rows

    def test_paces(self):
        for long in (1, 2, 3, 12):
            for pace in (0, 1, -1, long, -long, long - 1, 7, -7, 10 ** 12, -10 ** 12):
                told, rows = plain(Work("ab", [Band("k", 12, pace=-13), Band("a", long, pace=pace)]))
                self.assertEqual(told, Work("ab", [Band("k", 12, pace=11), Band("a", long, pace=pace % long)]))
                self.assertEqual(rows, [])

    def test_rhythms(self):
        for rhythm, due in [("x", "x"), ("xx", "x"), ("xxx", "x"), ("xxxxxx", "x"), ("x-", "x-"), ("x-x-", "x-"),
                            ("-x-x-x", "-x"), ("x--x--", "x--"), ("x-x", "x-x"), ("x-xx-", "x-xx-"),
                            ("x-x-x", "x-x-x"),
                            ("xx-xx-", "xx-"), ("x---x-", "x---x-"), ("----x", "----x"), ("xxxx", "x")]:
            self.assertEqual(self.plain_of(Press(A, B, FLIP2, rhythm=rhythm)),
                             ([Press(A, B, FLIP2, rhythm=due)], [(0,)]))

    def test_left_out(self):
        still = [Press(A, B, FLIP2, rhythm="-"), Press(A, B, FLIP2, rhythm="----"), Press(A, B, KEEP2),
                 Press(A, A, ("ab", "bb")), Press(A, A, ("aa", "ab"), rhythm="x-")]
        for press in still:
            self.assertEqual(self.plain_of(press), ([], []))
            self.assertEqual(self.plain_of(Press(B, A, FLIP2), press, Press(B, B, ("ba", "ba"))),
                             ([Press(B, A, FLIP2), Press(B, B, ("ba", "ba"))], [(0,), (2,)]))
        for press in [Press(A, B, ("ab", "aa")), Press(A, A, ("ba", "ab")), Press(A, A, ("aa", "aa"), rhythm="--x"),
                      Press(A, B, FLIP2)]:
            self.assertEqual(self.plain_of(press), ([press], [(0,)]))
        # Of one place three signs, each own text asked alone.
        self.assertEqual(self.plain_of(Press(A, A, ("abb", "cba", "aac")), signs="abc"), ([], []))
        turning = Press(A, A, ("abb", "caa", "aac"))
        self.assertEqual(self.plain_of(turning, signs="abc"), ([turning], [(0,)]))

    def test_two_neighbours_joined(self):
        # First copied, then flipped: of an a above a, of a b above a, too.
        self.assertEqual(self.plain_of(Press(A, B, COPY2), Press(A, B, FLIP2)), ([Press(A, B, ("aa", "aa"))], [(0, 1)]))
        self.assertEqual(self.plain_of(Press(A, B, FLIP2), Press(A, B, COPY2)), ([Press(A, B, COPY2)], [(0, 1)]))
        three = ("bca", "cba", "abc"), ("cab", "acb", "bbc")
        due = tuple("".join(three[1][row]["abc".index(sign)] for sign in three[0][row]) for row in range(3))
        self.assertEqual(self.plain_of(Press(A, B, three[0], rhythm="x-x-"), Press(A, B, three[1], rhythm="x-"),
                                       signs="abc"), ([Press(A, B, due, rhythm="x-")], [(0, 1)]))

    def test_neighbours_that_stay(self):
        for one, other in [(Press(A, B, FLIP2), Press(A, C, FLIP2)), (Press(A, B, FLIP2), Press(C, B, FLIP2)),
                           (Press(A, B, FLIP2), Press(A, B, FLIP2, rhythm="x-")),
                           (Press(A, B, FLIP2), Press(B, A, FLIP2)), (Press(A, A, ("ba", "ba")),) * 2]:
            self.assertEqual(self.plain_of(one, other), ([one, other], [(0,), (1,)]))
        one, between = Press(A, B, COPY2), Press(A, C, FLIP2)
        self.assertEqual(self.plain_of(one, between, one), ([one, between, one], [(0,), (1,), (2,)]))

    def test_three_and_more(self):
        copies = Press(A, B, COPY2)
        self.assertEqual(self.plain_of(copies, copies, copies), ([copies], [(0, 1, 2)]))
        self.assertEqual(self.plain_of(*[Press(A, B, FLIP2)] * 3), ([Press(A, B, FLIP2)], [(2,)]))
        self.assertEqual(self.plain_of(copies, Press(A, B, FLIP2), copies), ([copies], [(0, 1, 2)]))
        self.assertEqual(self.plain_of(*[Press(A, B, FLIP2)] * 8), ([], []))

    def test_left_out_and_joined_by_turns(self):
        flip, copy = Press(A, B, FLIP2), Press(B, A, COPY2)
        # The two in the middle change nothing together, so those beside them become neighbours.
        self.assertEqual(self.plain_of(flip, copy, Press(C, B, FLIP2), Press(C, B, FLIP2), copy, flip),
                         ([flip, copy, flip], [(0,), (1, 4), (5,)]))
        self.assertEqual(self.plain_of(flip, Press(B, A, FLIP2), Press(B, A, FLIP2), flip), ([], []))
        # What is left out goes ahead of what is joined, wherever it stands.
        self.assertEqual(self.plain_of(copy, copy, Press(B, A, KEEP2), copy), ([copy], [(0, 1, 3)]))
        self.assertEqual(self.plain_of(flip, Press(A, C, FLIP2, rhythm="-"), flip, flip), ([flip], [(3,)]))

    def test_by_hand(self):
        self.assertEqual(plain(work=mixed_work())[1], [(0,), (1,), (2,), (3,), (4,), (5,)])
        told = plain(small_work())
        self.assertIs(type(told), tuple)
        self.assertEqual(told, (Work("ab", [Band("one", 3, pace=1), Band("two", 4, pace=3)], small_work().presses()),
                                [(0,)]))
        self.assertEqual(plain(wheels((3,))), (wheels((3,)), []))

    def test_by_chance(self):
        joins = 0
        for chance in chances(150, 261):
            work = knotty_work(chance)
            told, rows = plain(work)
            presses, numbers = slow_plain(work)
            self.assertEqual((told.presses(), rows), (presses, numbers))
            self.assertEqual([band.pace() for band in told.bands()],
                             [band.pace() % band.long() for band in work.bands()])
            joins += any(len(each) > 1 for each in rows)
            self.assertEqual(plain(told), (told, [(at,) for at in range(len(rows))]))
            begin = some_rows(chance, work)
            self.assertEqual(run(Course(told), begin, 13), slow_run(Course(work), begin, 13))
            self.assertEqual(for_ever(work, told, work.places()), ("alike",))
        self.assertGreater(joins, 20)

    def test_it_runs_as_the_elder(self):
        for chance in chances(60, 262):
            work = some_work(chance, presses=8)
            told, _ = plain(work)
            rows = some_rows(chance, work)
            self.assertEqual(run(Course(told), rows, 20), slow_run(Course(work), rows, 20))

    def test_what_is_told_is_the_askers_own(self):
        work = of_presses(Press(A, B, COPY2), Press(A, B, FLIP2))
        plain(work)[1].clear()
        self.assertEqual(plain(work)[1], [(0, 1)])
        self.assertEqual(work, of_presses(Press(A, B, COPY2), Press(A, B, FLIP2)))


if __name__ == "__main__":
    unittest.main()
