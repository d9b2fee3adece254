"""Works: made, told, refused, equal."""

import unittest

from bandprint.bands import Band, Press, Work
from bandprint.courses import Course
from bandprint.errors import NoPlace, NoWork
from tests.samples import COPY2, FLIP2, KEEP2, Refusals, mixed_work, odd_things, small_work

BANDS = (Band("one", 3, pace=1), Band("two", 4, pace=-1))
PRESSES = (Press(("one", 0), ("two", 0), FLIP2), Press(("two", 3), ("one", 2), COPY2, rhythm="x-"))


def letters(many):
    """Bands of one place each."""
    return [Band("abcdefgh"[at], 1) for at in range(many)]


class Works(Refusals):

    def test_tells_what_it_was_made_of(self):
        work = Work("ab", BANDS, PRESSES)
        for _ in range(2):
            self.assertEqual(work.signs(), "ab")
            self.assertEqual(work.bands(), list(BANDS))
            self.assertEqual(work.presses(), list(PRESSES))
            self.assertIs(type(work.bands()), list)
            self.assertIs(type(work.presses()), list)

    def test_lists_beside_tuples_and_what_is_left_out(self):
        self.assertEqual(Work("ab", list(BANDS), list(PRESSES)), Work("ab", BANDS, PRESSES))
        self.assertEqual(Work("ab", BANDS), Work("ab", BANDS, []))
        self.assertEqual(Work("ab", BANDS), Work("ab", BANDS, ()))
        self.assertEqual(Work("ab", BANDS).presses(), [])
        self.assertEqual(Work(presses=PRESSES, bands=BANDS, signs="ab"), Work("ab", BANDS, PRESSES))

    def test_places_and_their_numbers(self):
        work = Work("ab", [Band("b", 2), Band("a", 3), Band("c", 1)])
        places = [("b", 0), ("b", 1), ("a", 0), ("a", 1), ("a", 2), ("c", 0)]
        self.assertEqual(work.places(), places)
        self.assertEqual([work.place_in(place) for place in places], [0, 1, 2, 3, 4, 5])
        self.assertEqual(work.place_in(place=("a", 2)), 4)
        self.assertEqual(len(work), 6)
        self.assertEqual(len(mixed_work()), 13)

    def test_common(self):
        def common(*rhythms):
            return Work("ab", BANDS, [Press(("one", 0), ("two", 0), FLIP2, rhythm=each) for each in rhythms]).common()
        self.assertEqual(Work("ab", BANDS).common(), 1)
        self.assertEqual(common("x"), 1)
        self.assertEqual(common("x-"), 2)
        self.assertEqual(common("xx", "xxx"), 6)
        self.assertEqual(common("x---", "x-----"), 12)
        self.assertEqual(common("--", "---", "----"), 12)
        self.assertEqual(common("-", "--", "---", "----", "-----", "------"), 60)
        self.assertEqual(common("x-x-x", "xxxxx"), 5)
        self.assertEqual(common("-----"), 5)

    def test_what_is_handed_in_and_told_is_copied(self):
        bands, presses = list(BANDS), list(PRESSES)
        work = Work("ab", bands, presses)
        bands.pop()
        presses.clear()
        self.assertEqual(work, Work("ab", BANDS, PRESSES))
        work.bands().clear()
        work.presses().append(None)
        work.places()[0] = None
        self.assertEqual(work, Work("ab", BANDS, PRESSES))
        self.assertEqual(work.bands(), list(BANDS))
        self.assertEqual(work.presses(), list(PRESSES))
        self.assertEqual(work.places()[0], ("one", 0))
        self.assertEqual(len(work), 7)

    def test_handed_in_lists_are_not_changed(self):
        bands, presses = list(BANDS), list(PRESSES)
        Work("ab", bands, presses)
        self.assertEqual((bands, presses), (list(BANDS), list(PRESSES)))

    def test_bounds(self):
        for signs in ["ab", "yz", "abc", "aexz"]:
            self.assertEqual(Work(signs, BANDS).signs(), signs)
        self.assertEqual(len(Work("ab", letters(1))), 1)
        self.assertEqual(len(Work("ab", letters(6))), 6)
        self.assertEqual(len(Work("ab", [Band("a", 12), Band("b", 12), Band("c", 12), Band("d", 4)])), 40)
        self.assertEqual(len(Work("ab", BANDS, PRESSES * 4).presses()), 8)
        self.assertEqual(Work("ab", [Band("a", 12)], [Press(("a", 11), ("a", 11), FLIP2)]).place_in(("a", 11)), 11)
        self.assertEqual(Work("ab", BANDS, [PRESSES[0]]).presses(), [PRESSES[0]])

    def test_refused_signs(self):
        for signs in odd_things() + ["a", "abcde", "ba", "aa", "aab", "acb", "aB", 12, ("a", "b"), ["a", "b"]]:
            self.refused(NoWork, {"field": "signs"}, Work, signs, BANDS)

    def test_refused_bands(self):
        wrong = [
            (), [], letters(7), [Band("a", 1), Band("a", 1)], [Band("a", 1), Band("b", 1), Band("a", 2, pace=3)],
            [Band("a", 12), Band("b", 12), Band("c", 12), Band("d", 5)], Band("a", 1), {"a": Band("a", 1)}, "ab", 0,
            [("a", 1)], [("a", 1, 0)], [Band("a", 1), None], [Band("a", 1), "b"], [[Band("a", 1)]], [small_work()],
            [PRESSES[0]], [True], [0], [{}],
        ]
        for bands in odd_things() + wrong:
            self.refused(NoWork, {"field": "bands"}, Work, "ab", bands)
            if not isinstance(bands, Band):
                self.refused(NoWork, {"field": "bands"}, Work, "ab", [bands])
                self.refused(NoWork, {"field": "bands"}, Work, "ab", (Band("one", 1), bands))

    def test_refused_presses(self):
        good = PRESSES[0]
        wrong = [
            [good] * 9, good, {"a": good}, "x", 0, [[good]], [good, None], [good, BANDS[0]], [small_work()],
            [Press(("one", 3), ("two", 0), FLIP2)], [Press(("one", 0), ("two", 4), FLIP2)],
            [Press(("three", 0), ("two", 0), FLIP2)], [Press(("one", 0), ("three", 0), FLIP2)],
            [good, Press(("one", 0), ("two", 0), ("abc", "abc", "abc"))], [Press(("one", 0), ("two", 0), ("ab", "ac"))],
            [Press(("one", 0), ("two", 0), ("xy", "yx"))], [Press(("one", 0), ("two", 0), ("abcd",) * 4)],
            [(("one", 0), ("two", 0), FLIP2, "x")], [Course(small_work())],
        ]
        for presses in [thing for thing in odd_things() if thing != []] + wrong:
            self.refused(NoWork, {"field": "presses"}, Work, "ab", BANDS, presses)
            if presses != good:
                self.refused(NoWork, {"field": "presses"}, Work, "ab", BANDS, [presses])
                self.refused(NoWork, {"field": "presses"}, Work, "ab", BANDS, (good, presses))
        self.refused(NoWork, {"field": "presses"}, Work, "abc", BANDS, [good])
        self.refused(NoWork, {"field": "presses"}, Work, "ac", BANDS, [good])

    def test_the_first_that_is_due_is_told(self):
        self.refused(NoWork, {"field": "signs"}, Work, "ba", None, None)
        self.refused(NoWork, {"field": "bands"}, Work, "ab", None, None)
        self.refused(NoWork, {"field": "signs"}, Work, "ba", BANDS, None)
        self.refused(NoWork, {"field": "bands"}, Work, "ab", [], PRESSES)
        self.refused(NoWork, {"field": "signs"}, Work, signs=None, bands=(), presses=())

    def test_refused_places(self):
        work = small_work()
        wrong = [("one", 3), ("two", 4), ("three", 0), ("one", -1), ("one", True), ("one", False), ("one", 0.0),
                 ("one", 1.0),
                 ["one", 0], ("one", 0, 0), ("one",), "one", 0, (("one", 0),), ("one", "0"), ("one", [0]), (["one"], 0),
                 ("one", 10 ** 60), ({}, 0), ("one", {})]
        for place in odd_things() + wrong:
            self.refused(NoPlace, {"place": place}, work.place_in, place)
            self.refused(NoPlace, {"place": place}, work.place_in, place=place)

    def test_equal_where_all_is(self):
        work = Work("ab", BANDS, PRESSES)
        same = Work("ab", [Band("one", 3, pace=1), Band("two", 4, pace=-1)],
                    [Press(("one", 0), ("two", 0), FLIP2), Press(("two", 3), ("one", 2), COPY2, rhythm="x-")])
        self.assertTrue(work == same)
        self.assertFalse(work != same)
        for other in [Work("ab", BANDS[::-1], PRESSES), Work("ab", BANDS, PRESSES[::-1]),
                      Work("ab", BANDS, PRESSES[:1]),
                      Work("ab", BANDS), Work("ab", [*BANDS, Band("c", 1)], PRESSES),
                      Work("ab", [Band("one", 3, pace=-2), BANDS[1]], PRESSES),
                      Work("ab", BANDS, [PRESSES[0], Press(("two", 3), ("one", 2), KEEP2, rhythm="x-")])]:
            self.assertFalse(work == other)
            self.assertTrue(work != other)
        self.assertFalse(Work("ab", BANDS) == Work("ac", BANDS))
        self.assertFalse(Work("ab", BANDS) == Work("abc", BANDS))

    def test_equal_to_nothing_else(self):
        work = Work("ab", BANDS, PRESSES)
        for other in odd_things() + ["ab", ("ab", list(BANDS), list(PRESSES)), 7]:
            self.assertFalse(work == other)
            self.assertTrue(work != other)


if __name__ == "__main__":
    unittest.main()
