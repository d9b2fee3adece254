"""Bands and presses: made, told, refused, equal."""

import unittest

from bandprint.bands import Band, Press
from bandprint.errors import NoBand, NoPress
from tests.samples import COPY2, FLIP2, KEEP2, Refusals, odd_things

MOST = 10 ** 12


class Bands(Refusals):

    def test_tells_what_it_was_made_of(self):
        band = Band("one", 5, pace=-7)
        self.assertEqual((band.called(), band.long(), band.pace()), ("one", 5, -7))
        self.assertEqual((band.called(), band.long(), band.pace()), ("one", 5, -7))

    def test_pace_is_0_where_left_out(self):
        self.assertEqual(Band("one", 5).pace(), 0)
        self.assertEqual(Band("one", 5), Band("one", 5, pace=0))

    def test_made_by_names(self):
        self.assertEqual(Band(name="one", long=5, pace=2), Band("one", 5, pace=2))
        self.assertEqual(Band(long=5, name="one"), Band("one", 5))
        self.assertRaises(TypeError, Band, "one", 5, 2)

    def test_bounds(self):
        self.assertEqual(Band("a", 1).long(), 1)
        self.assertEqual(Band("abcdefgh", 12).called(), "abcdefgh")
        for pace in [MOST, -MOST, MOST - 1, 1 - MOST, 12, 0]:
            self.assertEqual(Band("a", 12, pace=pace).pace(), pace)

    def test_refused_names(self):
        for name in odd_things() + ["abcdefghi", "Ab", 0, ("a",), ["a"], ("a", 0)]:
            self.refused(NoBand, {"field": "name"}, Band, name, 3)

    def test_refused_longs(self):
        for long in odd_things() + [0, 13, -1, 10 ** 60, 1.0, "3", (3,), [3]]:
            self.refused(NoBand, {"field": "long"}, Band, "a", long)

    def test_refused_paces(self):
        for pace in odd_things() + [MOST + 1, -MOST - 1, 10 ** 60, 0.0, "0", (0,), [0]]:
            self.refused(NoBand, {"field": "pace"}, Band, "a", 3, pace=pace)

    def test_the_first_that_is_due_is_told(self):
        self.refused(NoBand, {"field": "name"}, Band, "", 0, pace=None)
        self.refused(NoBand, {"field": "long"}, Band, "a", 0, pace=None)
        self.refused(NoBand, {"field": "name"}, Band, "", 3, pace=None)
        self.refused(NoBand, {"field": "name"}, Band, None, True)

    def test_equal_where_all_is(self):
        band = Band("a", 3, pace=2)
        self.assertTrue(band == Band("a", 3, pace=2))
        self.assertFalse(band != Band("a", 3, pace=2))
        for other in [Band("b", 3, pace=2), Band("a", 4, pace=2), Band("a", 3, pace=-2), Band("a", 3, pace=5),
                      Band("a", 3)]:
            self.assertFalse(band == other)
            self.assertTrue(band != other)

    def test_equal_to_nothing_else(self):
        for other in odd_things() + ["a", ("a", 3, 2), 3]:
            if not isinstance(other, Band):
                self.assertFalse(Band("a", 3) == other)
                self.assertTrue(Band("a", 3) != other)


class Presses(Refusals):

    def test_tells_what_it_was_made_of(self):
        press = Press(("a", 0), ("b", 11), FLIP2, rhythm="x-x")
        for _ in range(2):
            told = (press.above(), press.below(), press.table(), press.rhythm())
            self.assertEqual(told, (("a", 0), ("b", 11), ("ab", "ba"), "x-x"))

    def test_rhythm_is_x_where_left_out(self):
        self.assertEqual(Press(("a", 0), ("b", 0), FLIP2).rhythm(), "x")
        self.assertEqual(Press(("a", 0), ("b", 0), FLIP2), Press(("a", 0), ("b", 0), FLIP2, rhythm="x"))

    def test_made_by_names(self):
        by_names = Press(rhythm="-x", table=KEEP2, below=("b", 1), above=("a", 0))
        self.assertEqual(by_names, Press(("a", 0), ("b", 1), KEEP2, rhythm="-x"))
        self.assertRaises(TypeError, Press, ("a", 0), ("b", 1), KEEP2, "x")

    def test_bounds(self):
        place = ("a", 11)
        self.assertEqual(Press(place, place, FLIP2).above(), Press(place, place, FLIP2).below())
        for table in [("xy", "yx"), ("zz", "aa"), ("abc", "bca", "cab"), ("abcd",) * 4,
                      ("qrst", "aaaa", "zzzz", "tsrq")]:
            self.assertEqual(Press(place, ("b", 0), table).table(), table)
        for rhythm in ["x", "-", "xx", "------", "x-x-x-", "xxxxxx"]:
            self.assertEqual(Press(place, ("b", 0), FLIP2, rhythm=rhythm).rhythm(), rhythm)

    def test_refused_places(self):
        wrong = [("a", 12), ("a", -1), ("a", 10 ** 60), ("A", 0), ("", 0), ("abcdefghi", 0), ("a", True), ("a", 0.0),
                 ["a", 0], ("a", "0"), ("a", 0, 0), "a0", 0, (("a", 0),), ("a", None), (["a"], 0), ("a", [0])]
        for place in odd_things() + wrong:
            self.refused(NoPress, {"field": "above"}, Press, place, ("b", 0), FLIP2)
            self.refused(NoPress, {"field": "below"}, Press, ("b", 0), place, FLIP2)

    def test_refused_tables(self):
        wrong = [("ab",), ("a",), ("ab", "ab", "ab"), ("abc", "abc"), ("ab", "a"), ("ab", "abc"), ("ab", "aB"),
                 ("ab", "a1"),
                 ("ab", ""), ("ab", None), ("ab", 12), ("ab", ("a", "b")), ("ab", ["a", "b"]), ["ab", "ba"], "ab",
                 {"ab": "ba"}, ("abcde",) * 5, (("ab", "ba"),), ("ab", "a\u00e9"), ("ab", "a "), (1, 2), 0,
                 ("ab", True), ("abcd", "abcd", "abcd"), (FLIP2, FLIP2), ("ab", {"a": 1, "b": 2})]
        for table in odd_things() + wrong:
            self.refused(NoPress, {"field": "table"}, Press, ("a", 0), ("b", 0), table)

    def test_refused_rhythms(self):
        for rhythm in odd_things() + ["xxxxxxx", "X", "x ", "o", "x-o", "x\n", 0, ("x",), ["x"], ("x", "-")]:
            if rhythm != "-":
                self.refused(NoPress, {"field": "rhythm"}, Press, ("a", 0), ("b", 0), FLIP2, rhythm=rhythm)
        for letter in "abcdefghijklmnopqrstuvwyz":
            self.refused(NoPress, {"field": "rhythm"}, Press, ("a", 0), ("b", 0), FLIP2, rhythm="x-" + letter)

    def test_the_first_that_is_due_is_told(self):
        self.refused(NoPress, {"field": "above"}, Press, None, None, None, rhythm=None)
        self.refused(NoPress, {"field": "below"}, Press, ("a", 0), None, None, rhythm=None)
        self.refused(NoPress, {"field": "table"}, Press, ("a", 0), ("a", 0), None, rhythm=None)
        self.refused(NoPress, {"field": "rhythm"}, Press, ("a", 0), ("a", 0), FLIP2, rhythm=None)
        self.refused(NoPress, {"field": "above"}, Press, ("a", 12), ("a", 0), FLIP2, rhythm="")
        self.refused(NoPress, {"field": "below"}, Press, ("a", 0), ("a", 12), FLIP2, rhythm="")
        self.refused(NoPress, {"field": "table"}, Press, ("a", 0), ("a", 0), (), rhythm="")

    def test_equal_where_all_is(self):
        press = Press(("a", 0), ("b", 1), FLIP2, rhythm="x-")
        self.assertTrue(press == Press(("a", 0), ("b", 1), ("ab", "ba"), rhythm="x-"))
        self.assertFalse(press != Press(("a", 0), ("b", 1), FLIP2, rhythm="x-"))
        for other in [Press(("a", 1), ("b", 1), FLIP2, rhythm="x-"), Press(("b", 0), ("b", 1), FLIP2, rhythm="x-"),
                      Press(("a", 0), ("b", 0), FLIP2, rhythm="x-"), Press(("a", 0), ("b", 1), COPY2, rhythm="x-"),
                      Press(("a", 0), ("b", 1), FLIP2, rhythm="x-x-"), Press(("a", 0), ("b", 1), FLIP2),
                      Press(("b", 1), ("a", 0), FLIP2, rhythm="x-")]:
            self.assertFalse(press == other)
            self.assertTrue(press != other)

    def test_equal_to_nothing_else(self):
        press = Press(("a", 0), ("a", 1), KEEP2)
        for other in odd_things() + ["x", (("a", 0), ("a", 1), KEEP2, "x")]:
            self.assertFalse(press == other)
            self.assertTrue(press != other)


if __name__ == "__main__":
    unittest.main()
