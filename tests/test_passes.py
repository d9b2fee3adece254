"""Where what stands at a place comes to, and when it passes a press's sides."""

import unittest

from bandprint.bands import Band, Press, Work
from bandprint.beats import run
from bandprint.courses import Course
from bandprint.errors import NoPlace, NoPress, NoSide
from bandprint.passes import how_many_passes, next_pass, passes, where
from tests.samples import FAR, FLIP2, Refusals, chances, odd_things, small_work, some_work

FAST = 10 ** 12


def pressed(above, below, rhythm="x"):
    """A work of bands of 6, 4 and 5 places with one press."""
    bands = [Band("a", 6, pace=1), Band("b", 4, pace=-1), Band("c", 5)]
    return Work("ab", bands, [Press(above, below, FLIP2, rhythm=rhythm)])


def slow_passes(work, press, side, place, beats):
    """The beats of these at which it passes, one by one."""
    told = work.presses()[press]
    stop = told.above() if side == "above" else told.below()
    band = [each for each in work.bands() if each.called() == place[0]][0]
    return [beat for beat in beats if told.rhythm()[(beat - 1) % len(told.rhythm())] == "x"
            and stop == (place[0], (place[1] + beat * band.pace()) % band.long())]


class Where(Refusals):

    def test_by_hand(self):
        work = pressed(("a", 0), ("b", 0))
        self.assertEqual([where(work, ("a", 4), beats) for beats in range(4)], [("a", 4), ("a", 5), ("a", 0), ("a", 1)])
        self.assertEqual([where(work, ("b", 1), beats) for beats in range(4)], [("b", 1), ("b", 0), ("b", 3), ("b", 2)])
        self.assertEqual([where(work, ("c", 3), beats) for beats in [0, 1, -9, FAR]], [("c", 3)] * 4)
        self.assertEqual(where(work=work, place=("a", 0), beats=1), ("a", 1))

    def test_below_0_and_far(self):
        work = Work("ab", [Band("a", 6, pace=1), Band("b", 7, pace=-3), Band("c", 11, pace=FAST),
                           Band("d", 12, pace=-FAST)])
        self.assertEqual(where(work, ("a", 0), -1), ("a", 5))
        self.assertEqual(where(work, ("b", 0), -1), ("b", 3))
        self.assertEqual((FAR % 6, FAR % 7, FAR % 11), (4, 1, 1))
        self.assertEqual(where(work, ("a", 1), FAR), ("a", 5))
        self.assertEqual(where(work, ("a", 1), -FAR), ("a", 3))
        self.assertEqual(where(work, ("b", 1), FAR), ("b", 5))
        self.assertEqual(where(work, ("b", 1), -FAR), ("b", 4))
        for place in work.places():
            for beats in [3, 10 ** 30 + 7, FAR, -5, -FAR]:
                there = where(work, place, beats)
                self.assertEqual(where(work, there, -beats), place)
                self.assertEqual(where(work, where(work, place, beats - 1), 1), there)

    def test_it_is_where_a_run_brings_a_mark(self):
        for chance in chances(30, 19):
            bare = some_work(chance, presses=0)
            place = chance.choice(bare.places())
            first, last = bare.signs()[0], bare.signs()[-1]
            rows = tuple("".join(last if (band.called(), at) == place else first for at in range(band.long()))
                         for band in bare.bands())
            for beats, told in enumerate(run(Course(bare), rows, 9)):
                self.assertEqual("".join(told).index(last), bare.place_in(where(bare, place, beats)))

    def test_refused_places(self):
        for place in odd_things() + [("one", 3), ("three", 0), ("one", -1), ("one", True), ["one", 0], "one", 0]:
            self.refused(NoPlace, {"place": place}, where, small_work(), place, 3)


class Passes(Refusals):

    def test_both_sides(self):
        work = pressed(("a", 2), ("b", 3))
        self.assertEqual(passes(work, 0, "above", ("a", 0)), (6, [2]))
        self.assertEqual(passes(work, 0, "above", ("a", 2)), (6, [6]))
        self.assertEqual(passes(work, 0, "below", ("b", 0)), (4, [1]))
        self.assertEqual(passes(work, 0, "below", ("b", 3)), (4, [4]))
        self.assertEqual(passes(work=work, press=0, side="below", place=("b", 1)), (4, [2]))

    def test_places_of_another_band(self):
        for rhythm, lengths in [("x", (6, 4, 5)), ("x-x-", (12, 4, 20)), ("---", (6, 12, 15))]:
            work = pressed(("a", 2), ("b", 3), rhythm)
            self.assertEqual(passes(work, 0, "above", ("b", 3)), (lengths[1], []))
            self.assertEqual(passes(work, 0, "below", ("a", 2)), (lengths[0], []))
            self.assertEqual(passes(work, 0, "above", ("c", 0)), (lengths[2], []))
            self.assertEqual(how_many_passes(work, 0, "above", ("b", 3), upto=FAR), 0)
            self.assertIsNone(next_pass(work, 0, "above", ("b", 3)))

    def test_rhythms(self):
        self.assertEqual(passes(pressed(("a", 2), ("b", 3), "-x--"), 0, "above", ("a", 0)), (12, [2]))
        self.assertEqual(passes(pressed(("a", 2), ("b", 3), "x---"), 0, "above", ("a", 0)), (12, []))
        self.assertEqual(passes(pressed(("a", 2), ("b", 3), "-x-x"), 0, "above", ("a", 0)), (12, [2, 8]))
        self.assertEqual(passes(pressed(("a", 2), ("b", 3), "---xx"), 0, "above", ("a", 0)), (30, [14, 20]))
        self.assertEqual(passes(pressed(("a", 2), ("b", 3), "-"), 0, "above", ("a", 0)), (6, []))
        self.assertEqual(passes(pressed(("a", 2), ("b", 3), "----"), 0, "below", ("b", 0)), (4, []))
        self.assertIsNone(next_pass(pressed(("a", 2), ("b", 3), "------"), 0, "above", ("a", 0), behind=5))

    def test_bands_that_rest(self):
        self.assertEqual(passes(pressed(("c", 2), ("b", 3), "x-x"), 0, "above", ("c", 2)),
                         (15, [1, 3, 4, 6, 7, 9, 10, 12, 13, 15]))
        self.assertEqual(passes(pressed(("c", 2), ("b", 3), "x-x"), 0, "above", ("c", 1)), (15, []))

    def test_one_place_above_and_below(self):
        work = pressed(("a", 5), ("a", 5), "xx-")
        self.assertEqual(passes(work, 0, "above", ("a", 1)), (6, [4]))
        self.assertEqual(passes(work, 0, "below", ("a", 1)), (6, [4]))

    def test_paces_of_each_kind_beside_single_beats(self):
        for pace in [0, 1, -1, 2, -5, 7, 12, FAST, -FAST, FAST - 1]:
            for long, rhythm in [(1, "x-"), (7, "x"), (12, "--x-x"), (11, "x-----")]:
                work = Work("ab", [Band("a", long, pace=pace)],
                            [Press(("a", 0), ("a", long - 1), FLIP2, rhythm=rhythm)])
                for place in work.places()[::3]:
                    for side in ["above", "below"]:
                        common, rests = passes(work, 0, side, place)
                        self.assertEqual(common % long + common % len(rhythm), 0)
                        self.assertEqual(rests, slow_passes(work, 0, side, place, range(1, common + 1)))

    def test_by_chance(self):
        for chance in chances(60, 20):
            work = some_work(chance, presses=6)
            for press in range(len(work.presses())):
                place, side = chance.choice(work.places()), chance.choice(["above", "below"])
                common, rests = passes(work, press, side, place)
                due = slow_passes(work, press, side, place, range(1, 200))
                self.assertEqual(rests, [beat for beat in due if beat <= common])
                self.assertTrue(all(1 <= beat <= common for beat in rests))
                for upto in [0, 1, 5, common - 1, common, common + 1, 3 * common + 2, 199]:
                    told = how_many_passes(work, press, side, place, upto=upto)
                    self.assertEqual(told, len([beat for beat in due if beat <= upto]))
                for behind in [0, 1, 5, common - 1, common, common + 1, 100]:
                    later = [beat for beat in due if beat > behind]
                    self.assertEqual(next_pass(work, press, side, place, behind=behind), later[0] if later else None)

    def test_counts(self):
        work = pressed(("a", 2), ("b", 3), "-x-x")
        told = [how_many_passes(work, 0, "above", ("a", 0), upto=upto) for upto in [0, 1, 2, 7, 8, 12, 13, 14, 120]]
        self.assertEqual(told, [0, 0, 1, 1, 2, 2, 2, 3, 20])
        self.assertEqual(how_many_passes(work=work, press=0, side="above", place=("a", 0), upto=14), 3)
        self.assertRaises(TypeError, how_many_passes, work, 0, "above", ("a", 0), 14)
        self.assertRaises(TypeError, how_many_passes, work, 0, "above", ("a", 0))
        self.assertEqual(how_many_passes(work, 0, "above", ("a", 0), upto=12 * 10 ** 50 + 2), 2 * 10 ** 50 + 1)
        self.assertEqual(FAR % 12, 4)
        self.assertEqual(how_many_passes(work, 0, "above", ("a", 0), upto=FAR), FAR // 12 * 2 + 1)
        resting = pressed(("c", 0), ("b", 3))
        self.assertEqual(how_many_passes(resting, 0, "above", ("c", 0), upto=FAR), FAR)

    def test_the_next_one(self):
        work = pressed(("a", 2), ("b", 3), "-x-x")
        told = [next_pass(work, 0, "above", ("a", 0), behind=behind) for behind in [0, 1, 2, 7, 8, 12, 13, 14]]
        self.assertEqual(told, [2, 2, 8, 8, 14, 14, 14, 20])
        self.assertEqual(next_pass(work, 0, "above", ("a", 0)), 2)
        first = pressed(("a", 2), ("b", 3))
        self.assertEqual((next_pass(first, 0, "below", ("b", 0)), next_pass(first, 0, "above", ("a", 1))), (1, 1))
        self.assertEqual(next_pass(first, 0, "below", ("b", 0), behind=1), 5)
        self.assertEqual(next_pass(work=work, press=0, side="above", place=("a", 0), behind=2), 8)
        self.assertRaises(TypeError, next_pass, work, 0, "above", ("a", 0), 2)
        self.assertEqual(next_pass(work, 0, "above", ("a", 0), behind=12 * 10 ** 50), 12 * 10 ** 50 + 2)

    def test_the_next_one_past_the_last_beat(self):
        work = pressed(("a", 2), ("b", 3), "-x-x")
        self.assertEqual(next_pass(work, 0, "above", ("a", 0), behind=FAR), FAR + 4)
        self.assertEqual(next_pass(work, 0, "above", ("a", 1), behind=FAR), None)
        self.assertEqual(next_pass(work, 0, "below", ("b", 0), behind=FAR), None)
        self.assertEqual(next_pass(pressed(("a", 2), ("b", 3)), 0, "below", ("b", 3), behind=FAR), FAR + 4)
        self.assertEqual(next_pass(pressed(("a", 2), ("b", 3)), 0, "below", ("b", 3), behind=FAR - 1), FAR)

    def test_refused_presses(self):
        for press in odd_things() + [1, -1, 8, FAR, "0", (0,), [0]]:
            self.refused(NoPress, {"field": "press"}, passes, small_work(), press, None, None)
            self.refused(NoPress, {"field": "press"}, how_many_passes, small_work(), press, "above", ("one", 0), upto=3)
            self.refused(NoPress, {"field": "press"}, next_pass, small_work(), press, "middle", ("one", 9))
        bare = Work("ab", [Band("a", 1)])
        self.refused(NoPress, {"field": "press"}, passes, bare, 0, "above", ("a", 0))

    def test_refused_sides(self):
        for side in odd_things() + ["middle", "Above", "abov", 0, ("above",), ["above"], ("one", 0)]:
            self.refused(NoSide, {"side": side}, passes, small_work(), 0, side, None)
            self.refused(NoSide, {"side": side}, how_many_passes, small_work(), 0, side, ("one", 0), upto=3)
            self.refused(NoSide, {"side": side}, next_pass, small_work(), 0, side, ("one", 3))

    def test_refused_places(self):
        for place in odd_things() + [("one", 3), ("three", 0), ("one", -1), ("one", True), ["one", 0], "one", 0]:
            for side in ["above", "below"]:
                self.refused(NoPlace, {"place": place}, passes, small_work(), 0, side, place)
                self.refused(NoPlace, {"place": place}, how_many_passes, small_work(), 0, side, place, upto=3)
                self.refused(NoPlace, {"place": place}, next_pass, small_work(), 0, side, place)

    def test_told_lists_are_the_asker_s(self):
        passes(small_work(), 0, "above", ("one", 0))[1].clear()
        self.assertEqual(passes(small_work(), 0, "above", ("one", 0)), (3, [3]))


if __name__ == "__main__":
    unittest.main()
