"""Rows: needed, looked at, one sign otherwise."""

import unittest

from bandprint.bands import Band, Work
from bandprint.errors import NoPlace, NoRows, NoSign
from bandprint.rows import need_rows, sign_at, with_sign
from tests.samples import Refusals, chances, odd_things, small_work, some_rows, some_work

ROWS = ("aba", "bbab")


def wrong_rows():
    """Rows that are none of the small work, and the number that is told of each."""
    texts = [None, True, 0, 1.0, "", "ab", "abab", "abc", "aBa", "a a", ("a", "b", "a"), ["a", "b", "a"], {}, ("aba",),
             small_work(), "ab\u00e9", "ab\n"]
    told = [((text, "bbab"), 0) for text in texts] + [((text, None), 0) for text in texts]
    told = told + [(("aba", text), 1) for text in texts + ["bbac", "bbabb"] if text != "abab"]
    shapes = [(), ("aba",), ("aba", "bbab", "a"), ["aba", "bbab"], "ababbab", None, 0, {"one": "aba", "two": "bbab"},
              (("aba", "bbab"),), "ab"]
    return told + [(shape, -1) for shape in shapes + [thing for thing in odd_things() if thing != (True, False)]]


class Rows(Refusals):

    def test_needed_rows(self):
        self.assertIsNone(need_rows(small_work(), ROWS))
        self.assertIsNone(need_rows(work=small_work(), rows=("aaa", "bbbb")))
        self.assertIsNone(need_rows(Work("axz", [Band("a", 1)]), ("z",)))
        for chance in chances(20, 2):
            work = some_work(chance)
            self.assertIsNone(need_rows(work, some_rows(chance, work)))

    def test_refused_rows(self):
        for rows, number in wrong_rows():
            self.refused(NoRows, {"number": number}, need_rows, small_work(), rows)
            self.refused(NoRows, {"number": number}, sign_at, small_work(), rows, ("one", 0))
            self.refused(NoRows, {"number": number}, with_sign, small_work(), rows, ("one", 0), "a")
        self.refused(NoRows, {"number": 0}, need_rows, small_work(), (True, False))

    def test_the_first_band_is_told(self):
        work = Work("ab", [Band("a", 1), Band("b", 2), Band("c", 3)])
        self.refused(NoRows, {"number": 2}, need_rows, work, ("a", "ab", "ab"))
        self.refused(NoRows, {"number": 1}, need_rows, work, ("a", "abb", "ab"))
        self.refused(NoRows, {"number": 0}, need_rows, work, ("c", "abb", "ab"))
        self.refused(NoRows, {"number": 1}, need_rows, work, ("a", "cc", "abb"))

    def test_sign_at(self):
        told = [sign_at(small_work(), ROWS, place) for place in small_work().places()]
        self.assertEqual(told, ["a", "b", "a", "b", "b", "a", "b"])
        self.assertEqual(sign_at(work=small_work(), rows=ROWS, place=("two", 2)), "a")

    def test_with_sign(self):
        self.assertEqual(with_sign(small_work(), ROWS, ("one", 0), "b"), ("bba", "bbab"))
        self.assertEqual(with_sign(small_work(), ROWS, ("two", 3), "a"), ("aba", "bbaa"))
        self.assertEqual(with_sign(small_work(), ROWS, ("two", 3), "b"), ROWS)
        self.assertEqual(with_sign(work=small_work(), rows=ROWS, place=("one", 2), sign="b"), ("abb", "bbab"))
        self.assertEqual(ROWS, ("aba", "bbab"))

    def test_with_sign_is_told_by_sign_at(self):
        for chance in chances(20, 3):
            work = some_work(chance)
            rows = some_rows(chance, work)
            place, sign = chance.choice(work.places()), chance.choice(work.signs())
            told = with_sign(work, rows, place, sign)
            for other in work.places():
                self.assertEqual(sign_at(work, told, other), sign if other == place else sign_at(work, rows, other))

    def test_refused_places(self):
        wrong = [("one", 3), ("two", 4), ("three", 0), ("one", -1), ("one", True), ("one", 0.0), ["one", 0], "one", 0,
                 ("one", [0])]
        for place in odd_things() + wrong:
            self.refused(NoPlace, {"place": place}, sign_at, small_work(), ROWS, place)
            self.refused(NoPlace, {"place": place}, with_sign, small_work(), ROWS, place, "a")

    def test_refused_signs(self):
        for sign in odd_things() + ["c", "ab", "", "A", 0, ("a",), ["a"]]:
            self.refused(NoSign, {"sign": sign}, with_sign, small_work(), ROWS, ("one", 0), sign)

    def test_the_first_that_is_due_is_told(self):
        self.refused(NoRows, {"number": -1}, with_sign, small_work(), None, None, None)
        self.refused(NoPlace, {"place": None}, with_sign, small_work(), ROWS, None, None)
        self.refused(NoRows, {"number": 1}, sign_at, small_work(), ("aba", ""), None)
        self.refused(NoRows, {"number": 1}, with_sign, small_work(), ("aba", ""), ("one", 0), None)


if __name__ == "__main__":
    unittest.main()
