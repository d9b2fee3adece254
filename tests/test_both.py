"""Two looks of two courses, or of one: whether they show the same for every beginning."""

import unittest

from bandprint.bands import Band, Press, Work
from bandprint.both import both_show, shows_both
from bandprint.courses import Course
from bandprint.errors import NoLook, OtherWork, TooMany
from tests.samples import FAR, FLIP2, KEEP2, Refusals, chances, odd_things, small_work, some_course, some_work
from tests.slowcases import all_rows, slow_both, slow_cases, slow_grown
from tests.test_shown import many_reads, seen_at
from tests.test_treelooks import bent, is_so, partings, renumbered

A, B = ("a", 0), ("b", 0)


def two(table, *, signs="ab", rhythm="x", puts=(), lifts=(), longs=(1, 1), paces=(0, 0), names="ab"):
    """A course of two bands with a press of the first on the second."""
    bands = [Band(name, long, pace=pace) for name, long, pace in zip(names, longs, paces)]
    work = Work(signs, bands, [Press((names[0], 0), (names[1], 0), table, rhythm=rhythm)])
    return Course(work, puts=puts, lifts=lifts)


def another(chance, course):
    """A course of another work with the same signs and bands: unlike in one thing, or in more."""
    work = course.work()
    how = chance.randrange(5)
    bands, presses, puts, lifts = work.bands(), work.presses(), course.puts(), course.lifts()
    if how == 0:
        return course
    if how == 1:
        bands = [Band(band.called(), band.long(), pace=band.pace() - chance.choice([0, 1, band.long()]))
                 for band in bands]
    if how == 2 and presses:
        del presses[chance.randrange(len(presses))]
        lifts = []
    if how == 3 and presses:
        at = chance.randrange(len(presses))
        tables = [presses[at].table()[::-1], tuple(text[::-1] for text in presses[at].table())]
        presses[at] = Press(presses[at].above(), presses[at].below(), chance.choice(tables),
                            rhythm=presses[at].rhythm())
    if how == 4:
        puts = puts[:-1] + [(chance.randint(1, 4), chance.choice(work.places()), chance.choice(work.signs()))]
    return Course(Work(work.signs(), bands, presses), puts=puts, lifts=lifts)


class ByHand(Refusals):

    def test_one_look_twice(self):
        course = Course(small_work())
        self.assertEqual(both_show(course, (0, ("two", 1)), course, (0, ("two", 1))), ("same", [("same",)]))
        self.assertEqual(both_show(course, (1, ("two", 0)), course, (1, ("two", 0))),
                         ("same", [("split", ("one", 2), (("a", 1), ("b", 2))), ("same",), ("same",)]))

    def test_a_band_that_nothing_prints_on(self):
        course = Course(small_work())
        self.assertEqual(both_show(course, (5, ("one", 0)), course, (3, ("one", 1))), ("same", [("same",)]))
        word, rows = both_show(course, (5, ("one", 0)), course, (3, ("one", 0)))
        self.assertEqual(word, "unlike")
        self.assertNotEqual(rows[0][1], rows[0][0])

    def test_from_one_place_and_from_two(self):
        course = Course(Work("ab", [Band("a", 2)]))
        word, rows = both_show(course, (0, ("a", 0)), course, (0, ("a", 1)))
        self.assertEqual((word, len(set(rows[0]))), ("unlike", 2))

    def test_a_sign_and_a_place(self):
        laid = two(KEEP2, puts=[(1, A, "b")])
        self.assertEqual(both_show(laid, (0, A), laid, (1, A)), ("unlike", ("a", "a")))
        self.assertEqual(both_show(laid, (1, A), laid, (0, A)), ("unlike", ("a", "a")))
        self.assertEqual(both_show(laid, (1, A), laid, (2, A)), ("same", [("same",)]))
        other = two(KEEP2, puts=[(1, A, "a")])
        word, _ = both_show(laid, (1, A), other, (1, A))
        self.assertEqual(word, "unlike")
        self.assertEqual(both_show(laid, (1, A), laid, (1, A)), ("same", [("same",)]))

    def test_the_same_place_by_unlike_ways(self):
        one, other = two(("ab", "ba")), two(("ba", "ab"))
        self.assertEqual(both_show(one, (2, B), other, (2, B)), ("same", [
            ("split", A, (("a", 1), ("b", 2))), ("same",), ("same",)]))
        word, rows = both_show(one, (1, B), other, (1, B))
        self.assertEqual(word, "unlike")
        self.assertTrue(shows_both(one, (1, B), other, (1, B), (word, rows)))

    def test_the_second_run_s_reads_part_what_the_first_has_left(self):
        # The first reads by the signs that a press has made two of, the other reads all three.
        presses = [Press(A, A, ("aac",) * 3), Press(A, B, ("bca", "bca", "cab"))]
        bands = [Band("a", 1), Band("b", 1)]
        one = Course(Work("abc", bands, presses[1:]))
        lifted = Course(Work("abc", bands, presses), lifts=[(0, 0, "up")])
        self.assertEqual(both_show(one, (1, B), lifted, (1, B)), ("same", [
            ("split", A, (("a", 1), ("b", 2), ("c", 3))), ("same",), ("same",), ("same",)]))
        lossy = Course(Work("abc", [*bands, Band("k", 1)], [Press(("k", 0), A, ("aac", "abc", "abc"), rhythm="x-"),
                                                           Press(A, B, ("bca", "cab", "abc"), rhythm="-x")]))
        plain = Course(lossy.work(), lifts=[(0, 0, "up")])
        told = slow_both(lossy, (2, B), plain, (2, B))
        self.assertEqual(told[1][0], "split")
        word, rows = both_show(lossy, (2, B), plain, (2, B))
        self.assertEqual((word, rows[2], rows[0]), ("unlike", "a", "b"))

    def test_two_that_show_the_same_by_other_presses(self):
        bands = [Band("a", 1), Band("b", 1)]
        one = Course(Work("ab", bands, [Press(A, B, FLIP2)]))
        twice = Course(Work("ab", bands, [Press(A, B, FLIP2)] * 3))
        self.assertEqual(both_show(one, (1, B), twice, (1, B))[0], "same")
        self.assertEqual(both_show(one, (1, B), Course(Work("ab", bands)), (1, B))[0], "unlike")
        self.assertEqual(both_show(one, (2, B), Course(Work("ab", bands)), (2, B))[0], "same")

    def test_by_places_and_by_names(self):
        course = Course(small_work())
        told = both_show(one=course, look=(9, ("one", 0)), other=course, look_there=(8, ("one", 2)), begin=8)
        self.assertEqual(told, ("same", [("same",)]))
        self.assertRaises(TypeError, both_show, course, (9, ("one", 0)), course, (8, ("one", 2)), 8)
        told[1].clear()
        self.assertEqual(both_show(course, (9, ("one", 0)), course, (8, ("one", 2)), begin=8), ("same", [("same",)]))


class Refused(Refusals):

    def test_other_works(self):
        one, look = two(KEEP2), (0, A)
        three = ("abc", "abc", "abc")
        for part, other in [("signs", two(three, signs="abc")), ("signs", two(("ac", "ac"), signs="ac")),
                            ("signs", two(three, signs="abc", names="cd")),
                            ("signs", two(three, signs="abc", longs=(2, 1))),
                            ("bands", two(KEEP2, names="ba")), ("bands", two(KEEP2, names="ac")),
                            ("bands", two(KEEP2, longs=(1, 2))), ("bands", two(KEEP2, longs=(2, 1))),
                            ("bands", Course(Work("ab", [Band("a", 1)]))),
                            ("bands", Course(Work("ab", [Band("a", 1), Band("b", 1), Band("c", 1)])))]:
            for first, second in [(one, other), (other, one)]:
                self.refused(OtherWork, {"part": part}, both_show, first, look, second, look)
                self.refused(OtherWork, {"part": part}, both_show, first, None, second, None)
                self.refused(OtherWork, {"part": part}, shows_both, first, None, second, None, None)
        for other in [two(KEEP2, paces=(1, 3)), Course(Work("ab", [Band("a", 1), Band("b", 1)]))]:
            self.assertEqual(both_show(one, look, other, look), ("same", [("same",)]))

    def test_the_order(self):
        course, look = many_reads(4)
        small = Course(small_work())
        self.refused(OtherWork, {"part": "signs"}, both_show, course, None, small, None)
        self.refused(NoLook, {"look": None}, both_show, course, None, course, 5)
        self.refused(NoLook, {"look": 5}, both_show, course, look, course, 5)
        self.refused(NoLook, {"look": (61, ("e", 0))}, both_show, course, look, course, (61, ("e", 0)))
        self.refused(TooMany, {"many": 200}, both_show, course, look, course, look)
        self.assertIs(shows_both(course, look, course, look, ("same", [("same",)])), False)

    def test_too_many_though_leaves_differ(self):
        course, look = many_reads(3)
        self.assertEqual(both_show(course, look, course, look)[0], "same")
        other = Course(course.work(), puts=[*course.puts(), (2, ("e", 0), "a")])
        self.assertEqual(both_show(course, look, other, look)[0], "unlike")
        # The other's reads part four leaves where the first one's part three.
        more = Course(course.work(), puts=course.puts(), lifts=[(0, 0, "up")])
        self.refused(TooMany, {"many": 200}, both_show, course, look, more, look)
        self.refused(TooMany, {"many": 200}, both_show, other, look, more, look)
        self.refused(TooMany, {"many": 200}, both_show, more, look, other, look)
        with self.assertRaises(TooMany):
            slow_both(other, look, more, look)


class ByChance(Refusals):

    def test_beside_all_beginnings(self):
        words = []
        for chance in chances(200, 101):
            work = some_work(chance, longs=(1, 2), presses=5, signs=("ab", "abc"))
            if len(work.signs()) ** len(work) > 250:
                continue
            one = some_course(chance, work, last=4)
            other = another(chance, one)
            begin = chance.choice([0, 0, 2])
            look = (begin + chance.randint(0, 5), chance.choice(work.places()))
            look_there = chance.choice([look, look, (begin + chance.randint(0, 5), chance.choice(work.places()))])
            told = both_show(one, look, other, look_there, begin=begin)
            words.append(told[0])
            same = all(seen_at(one, rows, look, begin) == seen_at(other, rows, look_there, begin)
                       for rows in all_rows(work))
            self.assertEqual(told[0], "same" if same else "unlike")
            if same:
                self.assertEqual(told[1], slow_both(one, look, other, look_there, begin))
            else:
                self.assertNotEqual(seen_at(one, told[1], look, begin), seen_at(other, told[1], look_there, begin))
            self.assertTrue(shows_both(one, look, other, look_there, told, begin=begin))
        self.assertGreater(min(words.count("same"), words.count("unlike")), 40)

    def test_bigger_ones_node_by_node(self):
        for chance in chances(120, 102):
            work = some_work(chance, presses=8)
            one = some_course(chance, work)
            other = another(chance, one)
            look = (chance.choice([0, 1, 4, 8, 60]), chance.choice(work.places()))
            try:
                due = slow_both(one, look, other, look)
            except TooMany:
                self.refused(TooMany, {"many": 200}, both_show, one, look, other, look)
                continue
            told = both_show(one, look, other, look)
            if ("unlike",) in due:
                self.assertEqual(told[0], "unlike")
                self.assertNotEqual(seen_at(one, told[1], look), seen_at(other, told[1], look))
            else:
                self.assertEqual(told, ("same", due))


class Looks(Refusals):

    def lets(self, thing, one=None, other=None):
        """What the look says of a thing, of a press that flips and one that flips thrice."""
        one = one or two(FLIP2)
        other = other or Course(Work("ab", [Band("a", 1), Band("b", 1)], [Press(A, B, FLIP2)] * 3))
        told = shows_both(one, (1, B), other, (1, B), thing)
        self.assertIsInstance(told, bool)
        return told

    TREE = [("split", A, (("a", 1), ("b", 2))), ("same",), ("same",)]

    def test_by_hand(self):
        self.assertTrue(self.lets(("same", self.TREE)))
        self.assertTrue(self.lets(("same", [("split", A, (("b", 2), ("a", 1))), ("same",), ("same",)])))
        self.assertTrue(self.lets(("same", [("split", B, (("b", 1), ("a", 2))), ("split", A, (("a", 3), ("b", 4))),
                                            ("split", A, (("b", 6), ("a", 5))), *[("same",)] * 4])))
        self.assertFalse(self.lets(("same", [("same",)])))
        self.assertFalse(self.lets(("same", [("split", B, (("a", 1), ("b", 2))), ("same",), ("same",)])))
        self.assertFalse(self.lets(("same", self.TREE), other=two(KEEP2)))
        self.assertFalse(self.lets(("same", self.TREE), other=two(("ba", "ab"))))
        copied = two(("aa", "bb"))
        self.assertTrue(self.lets(("same", self.TREE), one=copied, other=copied))

    def test_the_other_s_reads_are_single_too(self):
        # The first one's look needs no read, the other's does, though it comes to the same.
        one, other = two(KEEP2, lifts=[(0, 0, "up")]), two(KEEP2)
        self.assertFalse(self.lets(("same", [("same",)]), one=one, other=other))
        self.assertFalse(self.lets(("same", [("same",)]), one=other, other=one))
        self.assertTrue(self.lets(("same", self.TREE), one=one, other=other))
        self.assertTrue(self.lets(("same", self.TREE), one=other, other=one))

    def test_leaves_changed(self):
        for leaf in [("fits",), ("unlike",), ("shows", "a"), ("clashes", 0), ("same", 0), ("same", "a"), ["same"],
                     "same",
                     None, (), *odd_things()]:
            self.assertFalse(self.lets(("same", [self.TREE[0], leaf, ("same",)])), leaf)
            self.assertFalse(self.lets(("same", [self.TREE[0], ("same",), leaf])), leaf)

    def test_leaves_that_tell_they_are_unlike(self):
        told = ("same", [self.TREE[0], ("same",), ("unlike",)])
        self.assertEqual(slow_both(two(FLIP2), (1, B), two(KEEP2), (1, B)), told[1])
        self.assertFalse(self.lets(told, one=two(FLIP2), other=two(KEEP2)))
        self.assertFalse(self.lets(("unlike", told[1]), one=two(FLIP2), other=two(KEEP2)))

    def test_rows_by_another_word(self):
        for word in ["same", "Unlike", "parts", "", None, 0, ("unlike",), ["unlike"]]:
            self.assertFalse(self.lets((word, ("b", "a")), one=two(FLIP2), other=two(KEEP2)), word)

    def test_rows(self):
        flip, keep = two(FLIP2), two(KEEP2)
        for rows in all_rows(flip.work()):
            self.assertIs(self.lets(("unlike", rows), one=flip, other=keep), rows[0] == "b")
            self.assertIs(self.lets(("unlike", rows), one=keep, other=flip), rows[0] == "b")
            self.assertFalse(self.lets(("unlike", rows)))
        for rows in [["b", "a"], ("b",), ("b", "c"), ("ba",), None, "ba", ("b", "aa"), ("b", "a", "a"), *odd_things()]:
            self.assertFalse(self.lets(("unlike", rows), one=flip, other=keep), rows)

    def test_anything(self):
        for thing in odd_things() + [["same", self.TREE], ("same", tuple(self.TREE)), ("same",),
                                     ("same", self.TREE, None),
                                     ("unlike", self.TREE), ("same", ("b", "a")), (self.TREE, "same"),
                                     ("alike", self.TREE),
                                     self.TREE, "same", ("same", None), ("same", []), ("unlike", None),
                                     (True, self.TREE)]:
            self.assertFalse(self.lets(thing), thing)
            self.assertFalse(self.lets(thing, one=two(FLIP2), other=two(KEEP2)), thing)
            if thing != self.TREE:
                self.assertFalse(self.lets(("same", thing)), thing)

    def test_trees_of_another_hand_and_bent_ones(self):
        for chance in chances(120, 103):
            work = some_work(chance, longs=(1, 2), presses=4, signs=("ab", "abc"))
            if len(work.signs()) ** len(work) > 250:
                continue
            one = some_course(chance, work, last=4)
            other = another(chance, one)
            look = look_there = (chance.randint(0, 4), chance.choice(work.places()))
            if both_show(one, look, other, look_there)[0] != "same":
                continue
            left = [chance.randint(0, 3)]

            def end_of_box(box):
                places = [place for place in work.places() if len(box[place]) > 1]
                if left[0] > 0 and places:
                    left[0] -= 1
                    place = chance.choice(places)
                    return ("split", place, partings(box[place], chance))
                for course in [one, other]:
                    end = slow_cases(course, [look], begin=0, box=box, end_at=lambda beat, cases: None)
                    if end is not None:
                        return end
                return ("same",)
            nodes = renumbered(chance, slow_grown(work, end_of_box))
            self.assertTrue(shows_both(one, look, other, look_there, ("same", nodes)))
            thing = bent(chance, work, nodes, 1)
            # Whatever is let by parts all beginnings, and leaves nothing else but what is the same.
            if shows_both(one, look, other, look_there, ("same", thing)):
                shape = [("fits",) if node == ("same",) else node for node in thing]
                self.assertTrue(is_so(one, [], shape))

    def test_by_places_and_by_names(self):
        thing, course = ("same", list(self.TREE)), two(FLIP2)
        self.assertTrue(shows_both(one=course, look=(8, B), other=course, look_there=(8, B), thing=thing, begin=7))
        self.assertRaises(TypeError, shows_both, course, (8, B), course, (8, B), thing, 7)
        self.assertEqual(thing, ("same", self.TREE))
        self.assertTrue(shows_both(course, (FAR // 10 + 1, B), course, (FAR // 10 + 1, B), thing, begin=FAR // 10))


if __name__ == "__main__":
    unittest.main()
