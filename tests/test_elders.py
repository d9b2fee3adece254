"""Elders: all rows that a work's beats lead to some rows, as boxes."""

import itertools
import unittest

from bandprint.bands import Band, Press, Work
from bandprint.courses import Course
from bandprint.elders import elders
from bandprint.errors import NoRows, TooMany
from tests.samples import FAR, FLIP2, Refusals, chances, slow_run, small_work, some_rows, some_work, wheels
from tests.slowcases import all_rows, moved, working

A, B = ("a", 0), ("b", 0)


def in_boxes(work, found):
    """The rows of boxes, of each box one by one."""
    told = []
    for box in found:
        for signs in itertools.product(*box):
            at, rows = 0, []
            for band in work.bands():
                rows.append("".join(signs[at:at + band.long()]))
                at += band.long()
            told.append(tuple(rows))
    return told


def slow_elders(work, rows, beat, beats):
    """The boxes, press by press, each a dict by places; None where there are too many."""
    boxes = [dict(zip(work.places(), "".join(rows)))]
    for at in range(beat, beat - beats, -1):
        for number in reversed(working(Course(work), at)):
            press = work.presses()[number]
            above, below, table = press.above(), press.below(), press.table()
            parts = []
            for box in boxes:
                if above == below:
                    signs = [sign for row, sign in enumerate(work.signs()) if table[row][row] in box[above]]
                    parts.append({**box, above: "".join(signs)})
                    continue
                for sign in box[above]:
                    text = table[work.signs().index(sign)]
                    signs = [each for each, heir in zip(work.signs(), text) if heir in box[below]]
                    parts.append({**box, above: sign, below: "".join(signs)})
            boxes = [box for box in parts if all(box.values())]
            if len(boxes) > 200:
                return None
        boxes = [{place: box[moved(work, place, 1)] for place in work.places()} for box in boxes]
    return [tuple(box[place] for place in work.places()) for box in boxes]


CYCLES = ("abcd", "bcda", "cdab", "dabc")


def parting(halves, last):
    """A work by which behind beat 6 four boxes become so many by halves, 16 times as many, then what the last does.

    One place of k after another is wiped out; when it is read, a beat ahead, it is parted into its four signs.
    """
    presses = [Press(("k", 0), ("f", 0), CYCLES, rhythm="----x-"), Press(("k", 0), ("f", 0), halves, rhythm="---x--"),
               Press(("k", 0), ("g", 0), CYCLES, rhythm="-xx---"), last, Press(("k", 1), ("k", 1), ("aaaa",) * 4)]
    return Work("abcd", [Band("k", 12, pace=1), Band("f", 1), Band("g", 1)], presses)


class Elders(Refusals):

    def test_by_hand(self):
        work = small_work()
        self.assertEqual(elders(work, ("aba", "abba"), 1), [("b", "a", "a", "a", "a", "b", "b")])
        self.assertEqual(elders(work=work, rows=("aba", "abba"), beat=1, beats=1),
                         [("b", "a", "a", "a", "a", "b", "b")])
        self.assertEqual(elders(work, ("aba", "abba"), 1, beats=0), [tuple("abaabba")])
        self.assertRaises(TypeError, elders, work, ("aba", "abba"), 1, 1)
        copying = Work("ab", [Band("a", 1), Band("b", 1)], [Press(A, B, ("aa", "bb"))])
        self.assertEqual(elders(copying, ("a", "a"), 5), [("a", "ab")])
        self.assertEqual(elders(copying, ("a", "b"), 5), [])

    def test_parts_stand_in_the_place_of_their_box(self):
        # b and c are wiped out by the last presses, so there are signs to part by those ahead of them.
        bands = [Band(name, 1) for name in "abcd"]
        presses = [Press(("b", 0), ("d", 0), FLIP2), Press(("c", 0), ("d", 0), FLIP2),
                   Press(("a", 0), ("b", 0), ("aa", "aa")), Press(("a", 0), ("c", 0), ("aa", "aa"))]
        self.assertEqual(elders(Work("ab", bands, presses), ("a", "a", "a", "b"), 1), [
            ("a", "a", "a", "b"), ("a", "b", "a", "a"), ("a", "a", "b", "a"), ("a", "b", "b", "b")])

    def test_signs_rise(self):
        work = Work("acx", [Band("a", 1), Band("b", 1)], [Press(A, B, ("xca", "aaa", "cxc"))])
        self.assertEqual(elders(work, ("c", "a"), 3), [("c", "acx")])
        self.assertEqual(elders(work, ("x", "c"), 3), [("x", "ax")])
        self.assertEqual(elders(work, ("a", "x"), 3), [("a", "a")])
        self.assertEqual(elders(work, ("c", "x"), 3), [])

    def test_one_place(self):
        work = Work("abc", [Band("a", 2, pace=1)], [Press(A, A, ("bac", "cbc", "bbb"))])
        # Of one place only what each sign makes of itself counts: a b, b b, c b.
        self.assertEqual(elders(work, ("bc",), 1), [("c", "abc")])
        self.assertEqual(elders(work, ("ac",), 1), [])
        parted = Work("abc", [Band("a", 1), Band("b", 1)],
                      [Press(A, B, ("abc", "bca", "cab")), Press(A, A, ("aaa", "aaa", "acc"))])
        self.assertEqual(elders(parted, ("a", "a"), 1), [("a", "a"), ("b", "c")])
        self.assertEqual(elders(parted, ("c", "a"), 1), [("c", "b")])

    def test_beside_all_rows_led_forward(self):
        nothing = 0
        for chance in chances(80, 221):
            work = some_work(chance, longs=(1, 2), presses=5, signs=("ab", "abc"))
            beats = chance.choice([1, 1, 2, 3, 5])
            beat = chance.choice([beats, beats + 1, 12, FAR])
            rows = some_rows(chance, work)
            if chance.random() < 0.5:
                rows = slow_run(Course(work), rows, beats, beat - beats)[-1]
            due = slow_elders(work, rows, beat, beats)
            if due is None:
                self.refused(TooMany, {"many": 200}, elders, work, rows, beat, beats=beats)
                continue
            found = elders(work, rows, beat, beats=beats)
            self.assertEqual(found, due)
            told = in_boxes(work, found)
            self.assertEqual(len(told), len(set(told)))
            nothing += not told
            self.assertEqual(sorted(told), [each for each in all_rows(work)
                                            if slow_run(Course(work), each, beats, beat - beats)[-1] == rows])
        self.assertGreater(nothing, 3)

    def test_sixty_beats(self):
        rows = ("abbabab", "babba")
        due = ["".join(text[(at + 60) % len(text)] for at in range(len(text))) for text in rows]
        self.assertEqual(elders(wheels((7, 5)), rows, 60, beats=60), [tuple("".join(due))])

    def test_two_hundred_boxes_and_more(self):
        rows = ("a" * 12, "a", "a")
        just = parting(("abcd", "abcd", "aaaa", "bbbb"),
                       Press(("k", 0), ("g", 0), ("aabb", "aaaa", "bbbb", "cccc"), rhythm="x-----"))
        found = elders(just, rows, 6, beats=6)
        self.assertEqual((len(found), found), (200, slow_elders(just, rows, 6, 6)))
        self.assertEqual(len(elders(just, rows, 6, beats=5)), 160)
        # 208 as soon as g was read; that a later press leaves but 52 of these comes too late.
        more = parting(("abcd", "abcd", "abcd", "aaaa"),
                       Press(("g", 0), ("g", 0), ("aaaa",) * 4, rhythm="x-----"))
        self.assertEqual(len(elders(more, rows, 6, beats=4)), 52)
        self.refused(TooMany, {"many": 200}, elders, more, rows, 6, beats=5)
        self.refused(TooMany, {"many": 200}, elders, more, rows, 6, beats=6)
        # Those that are left out count no more: 64 that a press parts into 256, of which 64 have signs.
        fewer = parting(CYCLES, Press(("k", 0), ("g", 0), ("aaaa",) * 4, rhythm="x-----"))
        self.refused(TooMany, {"many": 200}, elders, fewer, rows, 6, beats=5)
        few = parting(("aaaa", "bbbb", "cccc", "dddd"),
                      Press(("k", 0), ("g", 0), ("aaaa", "bbbb", "cccc", "dddd"), rhythm="x-----"))
        self.assertEqual([len(elders(few, rows, 6, beats=beats)) for beats in range(7)], [1, 1, 4, 4, 16, 64, 64])

    def test_no_rows(self):
        self.refused(NoRows, {"number": 1}, elders, small_work(), ("aba", "abbc"), 3)
        self.refused(NoRows, {"number": -1}, elders, small_work(), ["aba", "abba"], 3)

    def test_what_is_told_is_the_askers_own(self):
        work = small_work()
        elders(work, ("aba", "abba"), 1).clear()
        self.assertEqual(len(elders(work, ("aba", "abba"), 1)), 1)
        self.assertEqual(work, small_work())


if __name__ == "__main__":
    unittest.main()
