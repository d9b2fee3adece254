"""One to one: lossless works, two stands with one heir, works led back and turned back."""

import itertools
import unittest

from bandprint.bands import Band, Press, Work
from bandprint.beats import next_rows, run
from bandprint.courses import Course
from bandprint.errors import Early, Lossy, TooLong
from bandprint.lossless import back, is_lossless, turned_back, two_of_one
from bandprint.rows import need_rows
from tests.samples import (FAR, FLIP2, KEEP2, MIXED_ROWS, Refusals, chances, mixed_work, one_marked, slow_beat,
                           slow_run, slow_walk, small_work, some_rows, wheels)
from tests.slowcases import all_rows
from tests.test_firsts import LONG

A, B = ("a", 0), ("b", 0)


def pressed(*presses, signs="ab"):
    """A work of two bands of one place each and these presses."""
    return Work(signs, [Band("a", 1), Band("b", 1)], presses)


def slow_is_lossless(work):
    """Whether no two rows come to the same by any beat of a small work."""
    for rest in range(work.common()):
        heirs = {slow_beat(Course(work), rows, rest + 1) for rows in all_rows(work)}
        if len(heirs) < len(all_rows(work)):
            return False
    return True


def one_to_one_work(chance, *, longs=(1, 2, 3, 4), presses=4, signs=("ab", "abc", "acxz")):
    """A lossless work by chance, some presses of one place, some that never work."""
    told = chance.choice(signs)
    bands = [Band(name, chance.choice(longs), pace=chance.choice([0, 1, -1, 2, -5, 10 ** 12]))
             for name in ["a", "bc", "defghijk"][:chance.randint(1, 3)]]
    places = [(band.called(), at) for band in bands for at in range(band.long())]
    made = []
    for _ in range(chance.randint(0, presses)):
        above, below = chance.choice(places), chance.choice(places)
        texts = ["".join(chance.sample(told, len(told))) for _ in told]
        rhythm = chance.choice(["x", "x-", "-x", "xx-", "--x", "x-x-", "-x--xx", "---"])
        if above == below:
            own = "".join(chance.sample(told, len(told)))
            texts = ["".join(own[row] if row == at else chance.choice(told) for at in range(len(told)))
                     for row in range(len(told))]
        if "x" not in rhythm:
            texts = ["".join(chance.choice(told) for _ in told) for _ in told]
        made.append(Press(above, below, tuple(texts), rhythm=rhythm))
    return Work(told, bands, made)


class OneToOne(Refusals):

    def test_each_text_of_a_table(self):
        for table in itertools.product(["".join(text) for text in itertools.product("ab", repeat=2)], repeat=2):
            due = all(sorted(text) == ["a", "b"] for text in table)
            self.assertEqual(is_lossless(pressed(Press(A, B, table))), due)
            # Of one place only what each sign makes of itself is asked.
            self.assertEqual(is_lossless(pressed(Press(A, A, table))), table[0][0] != table[1][1])
            self.assertIs(is_lossless(pressed(Press(A, A, table, rhythm="--"))), True)
        three = ("abc", "bca", "cab")
        for at in range(3):
            self.assertIs(is_lossless(pressed(Press(A, B, three), signs="abc")), True)
            lossy = tuple("abb" if at == row else text for row, text in enumerate(three))
            self.assertIs(is_lossless(pressed(Press(A, B, lossy), signs="abc")), False)
        self.assertIs(is_lossless(pressed(Press(A, A, ("abb", "aab", "aac"), rhythm="-x"), signs="abc")), False)
        self.assertIs(is_lossless(pressed(Press(A, A, ("cbb", "aab", "aab"), rhythm="-x"), signs="abc")), True)

    def test_works(self):
        lossy, still = Press(A, B, ("ab", "aa"), rhythm="-----x"), Press(A, B, ("ab", "aa"), rhythm="-")
        self.assertIs(is_lossless(work=wheels((3,))), True)
        self.assertIs(is_lossless(small_work()), True)
        self.assertIs(is_lossless(mixed_work()), False)
        self.assertIs(is_lossless(pressed(Press(A, B, FLIP2), lossy)), False)
        self.assertIs(is_lossless(pressed(Press(A, B, FLIP2), still)), True)

    def test_beside_all_rows(self):
        found = set()
        for chance in chances(60, 211):
            work = one_to_one_work(chance, longs=(1, 2), signs=("ab",))
            if chance.random() < 0.5 and work.presses():
                texts = [("ab", "aa"), ("bb", "ba"), ("ba", "ba"), ("ab", "bb")]
                press = chance.choice(work.presses())
                work = Work("ab", work.bands(), [Press(each.above(), each.below(), chance.choice(texts),
                                                       rhythm=each.rhythm()) if each == press else each
                                                 for each in work.presses()])
            found.add(is_lossless(work))
            self.assertEqual(is_lossless(work), slow_is_lossless(work))
        self.assertEqual(found, {True, False})


class TwoOfOne(Refusals):

    def looked_at(self, work):
        """That two of one are told, and are such."""
        begin, one, other, heir = two_of_one(work)
        self.assertTrue(0 <= begin < work.common())
        self.assertIs(type(begin), int)
        self.assertNotEqual(one, other)
        need_rows(work, one)
        need_rows(work, other)
        self.assertEqual(next_rows(Course(work), one, begin), heir)
        self.assertEqual(next_rows(Course(work), other, begin), heir)
        self.assertEqual(slow_beat(Course(work), other, begin + 1), heir)

    def test_by_hand(self):
        for work in [small_work(), wheels((3, 2)), pressed(Press(A, B, ("aa", "bb"), rhythm="---"))]:
            self.assertIsNone(two_of_one(work))
        self.looked_at(mixed_work())
        self.looked_at(pressed(Press(A, B, ("ab", "aa"))))
        self.looked_at(pressed(Press(A, B, ("bb", "ba"), rhythm="--x")))
        self.looked_at(pressed(Press(A, B, FLIP2), Press(B, B, ("ab", "ba"), rhythm="-x")))
        self.assertEqual(two_of_one(work=pressed(Press(A, A, ("ab", "aa"), rhythm="--x")))[0], 2)
        self.assertIs(type(two_of_one(mixed_work())), tuple)

    def test_behind_presses_that_turn_one_to_one(self):
        ahead = [Press(A, B, FLIP2), Press(B, A, FLIP2), Press(A, A, ("ba", "ba")), Press(B, A, ("ba", "ab"))]
        self.looked_at(pressed(*ahead, Press(A, B, ("ab", "bb")), *ahead[:2], rhythmless()))
        for chance in chances(120, 212):
            work = one_to_one_work(chance)
            places, signs = work.places(), work.signs()
            texts = tuple("".join(chance.choice(signs) for _ in signs) for _ in signs)
            press = Press(chance.choice(places), chance.choice(places), texts,
                          rhythm=chance.choice(["x", "-x", "---x", "x-", "--"]))
            at = chance.randint(0, len(work.presses()))
            work = Work(signs, work.bands(), work.presses()[:at] + [press] + work.presses()[at:])
            if is_lossless(work):
                self.assertIsNone(two_of_one(work))
            else:
                self.looked_at(work)


def rhythmless():
    """A lossy press that never works."""
    return Press(A, B, ("aa", "aa"), rhythm="-")


class Back(Refusals):

    def test_by_hand(self):
        work = small_work()
        told = slow_run(Course(work), ("aba", "abba"), 20)
        for beats in range(21):
            self.assertEqual(back(work, told[20], beats, begin=20), told[20 - beats])
        self.assertEqual(back(work=work, rows=told[9], beats=9, begin=9), told[0])
        self.assertRaises(TypeError, back, work, told[9], 9, 9)
        self.assertRaises(TypeError, back, work, told[9], 9)

    def test_beside_as_many_beats_forward(self):
        for chance in chances(100, 213):
            work = one_to_one_work(chance, presses=8)
            begin, rows = chance.choice([0, 1, 5, 13, FAR]), some_rows(chance, work)
            beats = chance.choice([0, begin, begin // 2, 1]) if begin <= 13 else chance.randint(0, 40)
            beats = min(beats, begin)
            told = back(work, rows, beats, begin=begin)
            self.assertEqual(slow_run(Course(work), told, beats, begin - beats)[-1], rows)

    def test_far_beyond_where_stands_come_again(self):
        work = Work("ab", [Band("a", 3, pace=1), Band("b", 4, pace=-1)],
                    [Press(("a", 0), ("b", 0), FLIP2, rhythm="x--")])
        rows = ("aba", "abba")
        told, (first, again) = slow_walk(Course(work), (rows,), 0, 1000)
        self.assertEqual(first, 0)
        for beats in [1001, 10 ** 9, FAR - 7, FAR]:
            ahead = back(work, rows, beats, begin=FAR)
            # As many beats forward from there, but for whole rounds.
            self.assertEqual(slow_run(Course(work), ahead, beats % again, (FAR - beats) % 3)[-1], rows)
        self.assertEqual(back(wheels((12,)), one_marked(wheels((12,))), FAR, begin=FAR),
                         ("a" * (-FAR % 12) + "b" + "a" * (11 - -FAR % 12),))

    def test_refused(self):
        lossy = pressed(Press(A, B, ("aa", "bb"), rhythm="-"), Press(A, B, FLIP2), Press(A, B, ("ab", "aa")),
                        Press(B, B, ("aa", "aa")))
        self.refused(Lossy, {"press": 2}, back, lossy, ("a", "b"), 3, begin=5)
        self.refused(Lossy, {"press": 2}, back, lossy, ("a", "b"), 6, begin=5)
        self.refused(Lossy, {"press": 2}, back, lossy, ("a", "b"), 0, begin=0)
        self.refused(Early, {"begin": 5}, back, small_work(), ("aba", "abba"), 6, begin=5)
        self.refused(Early, {"begin": 0}, back, small_work(), ("aba", "abba"), 1, begin=0)
        rows = one_marked(wheels(LONG))
        self.refused(Early, {"begin": 2000}, back, wheels(LONG), rows, 2001, begin=2000)
        self.refused(TooLong, {"beats": 2000}, back, wheels(LONG), rows, 2000, begin=2000)
        self.refused(TooLong, {"beats": 1001}, back, wheels(LONG), rows, 1001, begin=2000)
        self.assertEqual(back(wheels(LONG), rows, 1000, begin=1000),
                         tuple("".join(text[(at + 1000) % len(text)] for at in range(len(text))) for text in rows))

    def test_rounds_of_a_thousand(self):
        # 8 and 125 can't be bands; 990 = 9 * 10 * 11 comes again within the bound, 8 * 9 * 11 * 5 doesn't.
        near = wheels((9, 10, 11))
        rows = one_marked(near)
        self.assertEqual(back(near, rows, 990 * 5, begin=FAR), rows)
        self.assertEqual(back(near, rows, 990 * 5 + 1, begin=FAR), back(near, rows, 1, begin=FAR))
        # The rests by H count, too: of rhythms that together are 4 long the stands come again behind 1980 beats.
        slow = Work("ab", near.bands(), [Press(("a", 0), ("a", 0), KEEP2, rhythm="xxxx")])
        self.refused(TooLong, {"beats": 4950}, back, slow, rows, 4950, begin=FAR)
        still = Work("ab", near.bands(), [Press(("a", 0), ("a", 0), ("aa", "aa"), rhythm="----")])
        self.refused(TooLong, {"beats": 4950}, back, still, rows, 4950, begin=FAR)


class TurnedBack(Refusals):

    def same_bands(self, work, other):
        """That a work is one of the same signs, and bands of the same names and longs."""
        self.assertEqual(work.signs(), other.signs())
        self.assertEqual([(band.called(), band.long()) for band in work.bands()],
                         [(band.called(), band.long()) for band in other.bands()])

    def test_beside_back(self):
        for chance in chances(100, 214):
            work = one_to_one_work(chance, presses=8)
            begin = chance.choice([0, 1, 2, 7, 20, FAR, FAR - chance.randint(0, 10)])
            rows = some_rows(chance, work)
            turned = turned_back(work, begin)
            self.same_bands(work, turned)
            self.assertTrue(is_lossless(turned))
            many = min(begin, 14)
            self.assertEqual(run(Course(turned), rows, many),
                             [back(work, rows, beats, begin=begin) for beats in range(many + 1)])

    def test_twice_it_runs_as_the_first_one(self):
        for chance in chances(40, 215):
            work = one_to_one_work(chance, presses=8)
            rows, begin = some_rows(chance, work), chance.choice([0, 5, 13, FAR])
            twice = turned_back(work=turned_back(work, begin), begin=begin)
            self.assertEqual(run(Course(twice), rows, 13), slow_run(Course(work), rows, 13))

    def test_refused(self):
        self.refused(Lossy, {"press": 1}, turned_back, mixed_work(), 3)
        self.refused(Lossy, {"press": 1}, turned_back, pressed(Press(A, B, FLIP2), Press(A, B, ("aa", "bb"))), 0)
        work = mixed_work()
        self.assertRaises(Lossy, turned_back, work, 0)
        self.assertEqual(work, mixed_work())
        self.assertEqual(len(MIXED_ROWS), 4)


if __name__ == "__main__":
    unittest.main()
