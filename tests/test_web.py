"""Webs: all stands of a small work."""

import itertools
import math
import unittest

from bandprint.bands import Band, Press, Work
from bandprint.beats import next_rows, run
from bandprint.courses import Course
from bandprint.errors import TooMany
from bandprint.rounds import round_of
from bandprint.web import ever, round_of_all, web
from tests.samples import FLIP2, KEEP2, Refusals, chances, mixed_work, slow_beat, some_work, wheels
from tests.test_firsts import NEVER, slow_met, some_wish


def all_rows(work):
    """All rows of a work."""
    rows = [()]
    for band in work.bands():
        rows = [(*each, "".join(text)) for each in rows for text in itertools.product(work.signs(), repeat=band.long())]
    return rows


def slow_heirs(work):
    """For each stand the one that it leads to."""
    common = work.common()
    return {(rest, rows): ((rest + 1) % common, slow_beat(Course(work), rows, rest + 1))
            for rest in range(common) for rows in all_rows(work)}


def way(heirs, stand):
    """The stands from one on, each once, and how many of them are ahead of the round."""
    told = []
    while stand not in told:
        told.append(stand)
        stand = heirs[stand]
    return told, told.index(stand)


def slow_web(heirs):
    """The web, stand by stand."""
    found = {}
    for stand in heirs:
        told, ahead = way(heirs, stand)
        ring = told[ahead:]
        length, many = found.get(min(ring), (len(ring), 0))
        found[min(ring)] = (length, many + 1)
    return sorted((length, many, least) for least, (length, many) in found.items())


def slow_round_of_all(heirs):
    """The round of all, stand by stand."""
    ways = [way(heirs, stand) for stand in heirs]
    return (max(ahead for _, ahead in ways), math.lcm(*[len(told) - ahead for told, ahead in ways]))


def slow_ever(work, heirs, wish):
    """How many beginnings ever meet a wish, and the greatest of their least numbers."""
    firsts = []
    for rows in all_rows(work):
        met = [at for at, stand in enumerate(way(heirs, (0, rows))[0]) if slow_met(work, stand[1], wish)]
        firsts = firsts + met[:1]
    return (len(firsts), max(firsts, default=None))


def stands_of(rhythms, long, signs="ab"):
    """A work of one band with presses of these rhythms."""
    presses = [Press(("a", 0), ("a", long - 1), tuple(signs for _ in signs), rhythm=rhythm) for rhythm in rhythms]
    return Work(signs, [Band("a", long, pace=1)], presses)


class Webs(Refusals):

    def test_by_hand(self):
        self.assertEqual(web(wheels((2,))), [(1, 1, (0, ("aa",))), (1, 1, (0, ("bb",))), (2, 2, (0, ("ab",)))])
        self.assertEqual(round_of_all(wheels((2,))), (0, 2))
        wiped = Work("ab", [Band("a", 2, pace=1)], [Press(("a", 0), ("a", 0), ("aa", "aa"))])
        self.assertEqual(web(wiped), [(1, 4, (0, ("aa",)))])
        self.assertEqual(round_of_all(wiped), (2, 1))
        self.assertEqual(web(work=wiped), [(1, 4, (0, ("aa",)))])
        self.assertEqual(round_of_all(work=wiped), (2, 1))

    def test_rests(self):
        rest = Work("ab", [Band("a", 1)], [Press(("a", 0), ("a", 0), KEEP2, rhythm="--")])
        self.assertEqual(web(rest), [(2, 2, (0, ("a",))), (2, 2, (0, ("b",)))])
        flips = Work("ab", [Band("a", 1)], [Press(("a", 0), ("a", 0), ("ba", "ba"), rhythm="--x")])
        self.assertEqual(web(flips), [(6, 6, (0, ("a",)))])
        wiped = Work("ab", [Band("a", 1)], [Press(("a", 0), ("a", 0), ("aa", "aa"), rhythm="-x")])
        self.assertEqual(web(wiped), [(2, 4, (0, ("a",)))])
        self.assertEqual(round_of_all(wiped), (2, 2))

    def test_several_bands_and_signs(self):
        work = Work("acz", [Band("x", 1), Band("a", 2, pace=1)], [Press(("x", 0), ("a", 0), ("acz", "aaa", "zac"))])
        self.assertEqual(web(work), slow_web(slow_heirs(work)))
        self.assertEqual(sum(many for _, many, _ in web(work)), 27)

    def test_by_chance(self):
        for chance in chances(40, 21):
            work = some_work(chance, longs=(1, 2, 3), signs=("ab", "ab", "acx"))
            if len(work.signs()) ** len(work) * work.common() > 400:
                continue
            heirs = slow_heirs(work)
            self.assertEqual(web(work), slow_web(heirs))
            self.assertEqual(round_of_all(work), slow_round_of_all(heirs))
            for _ in range(3):
                wish = some_wish(chance, work)
                self.assertEqual(ever(work, wish), slow_ever(work, heirs, wish))
                self.assertEqual(ever(work, tuple(wish)), slow_ever(work, heirs, wish))

    def test_the_round_of_all_brings_all_back(self):
        for chance in chances(20, 22):
            work = some_work(chance, longs=(1, 2, 3), signs=("ab",), presses=3)
            if 2 ** len(work) * work.common() > 200:
                continue
            first, many = round_of_all(work)
            rounds = [round_of(Course(work), rows, begin=rest)
                      for rest in range(work.common()) for rows in all_rows(work)]
            self.assertEqual(first, max(each for each, _ in rounds))
            self.assertEqual(many, math.lcm(*[each for _, each in rounds]))

    def test_a_work_of_2000_stands_or_somewhat_fewer(self):
        for work, many in [(stands_of(["x----", "-x-"], 7), 1920),
                           (stands_of(["x-----", "x-----", "xx"], 5, "abc"), 1458),
                           (stands_of(["x"], 5, "abcd"), 1024), (stands_of(["x----", "x---", "x--"], 5), 1920)]:
            self.assertEqual(len(work.signs()) ** len(work) * work.common(), many)
            found = web(work)
            self.assertEqual(sum(each for _, each, _ in found), many)
            self.assertEqual(found, sorted(found))
            for length, _, (rest, rows) in found:
                self.assertEqual(round_of(Course(work), rows, begin=rest), (0, length))
                ring = run(Course(work), rows, length, begin=rest)
                stands = [((rest + at) % work.common(), each) for at, each in enumerate(ring)]
                self.assertEqual((min(stands), stands[0]), (stands[0], stands[-1]))
            self.assertEqual(round_of_all(work)[1], math.lcm(*[length for length, _, _ in found]))
            self.assertEqual(ever(work, []), (many // work.common(), 0))

    def test_too_many(self):
        wrong = [(stands_of([], 11), 2048), (stands_of(["xx"], 10), 2048),
                 (stands_of(["x----", "x---", "x--"], 6), 3840),
                 (stands_of(["x"], 7, "abc"), 2187), (mixed_work(), 3 ** 13 * 6), (wheels((12, 12, 12, 4)), 2 ** 40),
                 (wheels((12, 12, 12, 4), signs="wxyz"), 4 ** 40),
                 (stands_of(["x-----", "x----", "x---"], 12, "abcd"), 60 * 4 ** 12)]
        for work, many in wrong:
            self.refused(TooMany, {"many": many}, web, work)
            self.refused(TooMany, {"many": many}, round_of_all, work)
            self.refused(TooMany, {"many": many}, ever, work, [])
            self.refused(TooMany, {"many": many}, ever, work, [(work.places()[0], work.signs()[0])])

    def test_told_lists_are_the_asker_s(self):
        web(wheels((2,))).clear()
        self.assertEqual(len(web(wheels((2,)))), 3)


class Ever(Refusals):

    def test_by_hand(self):
        wheel = wheels((3,))
        self.assertEqual(ever(wheel, [(("a", 0), "b")]), (7, 2))
        self.assertEqual(ever(wheel, [(("a", 0), "b"), (("a", 1), "b")]), (4, 2))
        self.assertEqual(ever(wheel, [(("a", at), "b") for at in range(3)]), (1, 0))
        self.assertEqual(ever(work=wheel, wish=((("a", 2), "a"),)), (7, 2))

    def test_a_wish_that_none_meets(self):
        self.assertEqual(ever(wheels((3,)), NEVER), (0, None))
        still = Work("ab", [Band("a", 1), Band("b", 1)], [Press(("a", 0), ("b", 0), FLIP2, rhythm="x-")])
        self.assertEqual(ever(still, NEVER), (0, None))

    def test_a_wish_of_none(self):
        self.assertEqual(ever(wheels((3,)), []), (8, 0))
        self.assertEqual(ever(wheels((3,)), ()), (8, 0))
        self.assertEqual(ever(stands_of(["x-----"], 2), []), (4, 0))

    def test_beginnings_stand_at_beat_0(self):
        late = Work("ab", [Band("a", 1)], [Press(("a", 0), ("a", 0), ("bb", "bb"), rhythm="---x")])
        self.assertEqual(ever(late, [(("a", 0), "b")]), (2, 4))
        self.assertEqual(ever(late, [(("a", 0), "a")]), (1, 0))
        wish = [(("b", 0), "b"), (("a", 0), "b")]
        both = Work("ab", [Band("a", 3, pace=1), Band("b", 2)], [Press(("a", 1), ("b", 0), ("ab", "bb"), rhythm="-x")])
        self.assertEqual(ever(both, wish), slow_ever(both, slow_heirs(both), wish))

    def test_one_place_twice_alike(self):
        self.assertEqual(ever(wheels((3,)), [(("a", 0), "b"), (("a", 0), "b")]), (7, 2))

    def test_next_rows_lead_where_the_web_does(self):
        work = stands_of(["x-"], 3)
        heirs = slow_heirs(work)
        for rest, rows in heirs:
            self.assertEqual(heirs[(rest, rows)], ((rest + 1) % 2, next_rows(Course(work), rows, rest)))


if __name__ == "__main__":
    unittest.main()
