"""Told trees: node by node, and beside all beginnings of small works."""

import unittest

from bandprint.bands import Band, Press, Work
from bandprint.courses import Course
from bandprint.errors import NoSight, TooMany
from bandprint.trees import tree_of
from tests.samples import FAR, Refusals, chances, small_work, some_course, some_rows, some_work
from tests.slowcases import all_rows, in_box, many_leaves, shows, sightings_of, slow_boxes, slow_tree

A, B = ("a", 0), ("b", 0)


def pair(table, signs="ab", rhythm="x"):
    """A course of two single places, one above the other."""
    return Course(Work(signs, [Band("a", 1), Band("b", 1)], [Press(A, B, table, rhythm=rhythm)]))


class ByHand(Refusals):

    def test_of_no_sightings(self):
        for sightings in [[], ()]:
            for begin in [0, 4, FAR // 10]:
                self.assertEqual(tree_of(Course(small_work()), sightings, begin=begin), [("fits",)])

    def test_a_sighting_at_begin(self):
        course = Course(small_work())
        self.assertEqual(tree_of(course, [(0, ("two", 1), "b")]),
                         [("split", ("two", 1), (("b", 1), ("a", 2))), ("fits",), ("clashes", 0)])
        self.assertEqual(tree_of(course, [(0, ("two", 1), "a")]),
                         [("split", ("two", 1), (("a", 1), ("b", 2))), ("fits",), ("clashes", 0)])

    def test_a_sighting_at_begin_where_puts_are_told_of_it(self):
        course = Course(small_work(), puts=[(3, ("two", 1), "a")])
        due = [("split", ("two", 1), (("b", 1), ("a", 2))), ("fits",), ("clashes", 0)]
        self.assertEqual(tree_of(course, [(3, ("two", 1), "b")], begin=3), due)
        self.assertEqual(tree_of(course, [(3, ("two", 1), "b")]), [("clashes", 0)])
        self.assertEqual(tree_of(course, [(3, ("two", 1), "a")]), [("fits",)])

    def test_a_sighting_split_in_two(self):
        course = Course(Work("abcd", [Band("a", 3, pace=1)], [Press(("a", 1), ("a", 1), ("abca",) * 4)]))
        # Of place 0 the signs come to a, b, c, a; of place 2 to themselves.
        self.assertEqual(tree_of(course, [(1, ("a", 1), "a")]), [
            ("split", ("a", 0), (("a", 1), ("b", 2), ("c", 3), ("d", 4))),
            ("fits",), ("clashes", 0), ("clashes", 0), ("fits",)])
        other = Course(Work("abcd", [Band("a", 3, pace=1), Band("b", 1)], [Press(B, ("a", 1), ("abca",) * 4)]),
                       puts=[(1, B, "a")])
        self.assertEqual(tree_of(other, [(2, ("a", 2), "a")]), [
            ("split", B, (("a", 1), ("b", 4), ("c", 7), ("d", 10))),
            *[node for at in [0, 3, 6, 9] for node in
              [("split", ("a", 0), (("ad", at + 2), ("bc", at + 3))), ("fits",), ("clashes", 0)]]])
        self.assertEqual(tree_of(other, [(2, ("a", 2), "d")]), [
            ("split", B, (("a", 1), ("b", 2), ("c", 3), ("d", 4))), *[("clashes", 0)] * 4])

    def test_a_read_is_split_by_what_is_come_to(self):
        course = pair(("ab", "ba"))
        self.assertEqual(tree_of(course, [(1, B, "a")]), [
            ("split", A, (("a", 1), ("b", 4))),
            ("split", B, (("a", 2), ("b", 3))), ("fits",), ("clashes", 0),
            ("split", B, (("b", 5), ("a", 6))), ("fits",), ("clashes", 0)])
        # Parts rise by what the signs have come to, not by the signs.
        presses = [Press(("c", 0), A, ("cab", "cab", "cab")), Press(A, B, ("abc", "bca", "aaa"))]
        work = Work("abc", [Band("a", 1), Band("b", 1), Band("c", 1)], presses)
        laid = Course(work, puts=[(1, ("c", 0), "a"), (1, B, "c")])
        told = tree_of(laid, [(2, B, "c")])
        self.assertEqual(told[0], ("split", ("c", 0), (("a", 1), ("b", 5), ("c", 9))))
        # Of place 0 the signs a, b, c have come to b, c, a by the second beat.
        self.assertEqual(told[1:5], [("split", A, (("c", 2), ("a", 3), ("b", 4))), ("fits",), ("clashes", 0),
                                     ("clashes", 0)])

    def test_signs_that_come_to_one_are_one(self):
        lossy = Work("abc", [Band("a", 1), Band("b", 1)],
                     [Press(A, A, ("aab", "aab", "aab")), Press(A, B, ("abc",) * 3)])
        self.assertEqual(tree_of(Course(lossy), [(1, B, "b")])[0], ("split", A, (("a", 1), ("b", 4), ("c", 7))))
        wiped = Course(Work("abc", [Band("a", 1), Band("b", 1)], [Press(A, B, ("ccc", "ccc", "aaa"))]))
        self.assertEqual(tree_of(wiped, [(1, B, "c")]), [
            ("split", A, (("a", 1), ("b", 2), ("c", 3))), ("fits",), ("fits",), ("clashes", 0)])
        grouped = Course(Work("abc", [Band("a", 1), Band("b", 1), Band("k", 1)],
                              [Press(("k", 0), A, ("aab", "abc", "abc")), Press(A, B, ("ccc", "aaa", "bbb"))]),
                         puts=[(2, ("k", 0), "a"), (1, ("k", 0), "a")],
                         lifts=[(0, 0, "up"), (0, 1, "up"), (1, 0, "down"),
                                                                            (1, 1, "down")])
        self.assertEqual(tree_of(grouped, [(2, B, "a")]),
                         [("split", A, (("ab", 1), ("c", 2))), ("clashes", 0), ("fits",)])

    def test_one_place_and_beat_twice(self):
        course = Course(small_work())
        one = (0, ("two", 1), "b")
        self.assertEqual(tree_of(course, [one, one]),
                         [("split", ("two", 1), (("b", 1), ("a", 2))), ("fits",), ("clashes", 0)])
        self.assertEqual(tree_of(course, [one, (0, ("two", 1), "a")]),
                         [("split", ("two", 1), (("b", 1), ("a", 2))), ("clashes", 1), ("clashes", 0)])
        self.assertEqual(tree_of(pair(("ab", "ba")), [(1, A, "b"), (1, A, "a"), (1, A, "b")]),
                         [("split", A, (("b", 1), ("a", 2))), ("clashes", 1), ("clashes", 0)])

    def test_sightings_go_by_beats_then_as_handed_in(self):
        course = Course(small_work())
        late, soon, begin = (2, ("one", 0), "a"), (1, ("one", 0), "b"), (0, ("one", 0), "a")
        self.assertEqual(tree_of(course, [late, soon, begin]), [
            ("split", ("one", 0), (("a", 1), ("b", 6))),
            ("split", ("one", 2), (("b", 2), ("a", 5))),
            ("split", ("one", 1), (("a", 3), ("b", 4))), ("fits",), ("clashes", 0),
            ("clashes", 1), ("clashes", 2)])
        two = [(1, ("one", 2), "a"), (1, ("one", 1), "a")]
        self.assertEqual([node[1] for node in tree_of(course, two) if node[0] == "split"], [("one", 1), ("one", 0)])
        self.assertEqual([node[1] for node in tree_of(course, two[::-1]) if node[0] == "split"],
                         [("one", 0), ("one", 1)])

    def test_only_what_is_needed_is_read(self):
        # The read of the press would part the first place; only a sighting below needs it.
        course = pair(("ab", "ba"))
        self.assertEqual(tree_of(course, [(1, A, "a")]),
                         [("split", A, (("a", 1), ("b", 2))), ("fits",), ("clashes", 0)])
        laid = Course(course.work(), puts=[(1, B, "a")])
        self.assertEqual(tree_of(laid, [(1, B, "a")]), [("fits",)])
        self.assertEqual(tree_of(laid, [(1, B, "b"), (0, A, "a")]),
                         [("split", A, (("a", 1), ("b", 2))), ("clashes", 0), ("clashes", 1)])

    def test_a_press_on_one_place(self):
        course = Course(Work("ab", [Band("a", 1)], [Press(A, A, ("bb", "aa"))]))
        self.assertEqual(tree_of(course, [(1, A, "a")]),
                         [("split", A, (("a", 1), ("b", 2))), ("clashes", 0), ("fits",)])

    def test_by_places_and_by_names(self):
        course, sightings = Course(small_work()), [(3, ("two", 1), "b")]
        due = [("split", ("two", 1), (("b", 1), ("a", 2))), ("fits",), ("clashes", 0)]
        self.assertEqual(tree_of(course=course, sightings=sightings, begin=3), due)
        self.assertRaises(TypeError, tree_of, course, sightings, 3)
        tree_of(course, sightings, begin=3).clear()
        self.assertEqual(tree_of(course, tuple(sightings), begin=3), due)
        self.assertEqual(sightings, [(3, ("two", 1), "b")])
        self.assertEqual(course, Course(small_work()))


class Leaves(Refusals):

    def test_two_hundred_leaves_and_more(self):
        for more in [0, 7, 8]:
            course, sightings = many_leaves(more)
            told = tree_of(course, sightings)
            self.assertEqual(len([node for node in told if node[0] != "split"]), 192 + more)
            self.assertEqual(told, slow_tree(course, sightings))
        for more in [9, 10, 12]:
            course, sightings = many_leaves(more)
            self.refused(TooMany, {"many": 200}, tree_of, course, sightings)

    def test_far_more(self):
        work = Work("abcd", [Band("a", 12), Band("b", 12), Band("c", 12)],
                    [Press(("a", at), ("b", 0), ("abcd", "bcda", "cdab", "dabc")) for at in range(8)])
        self.refused(TooMany, {"many": 200}, tree_of, Course(work), [(60, ("b", 0), "a")])

    def test_no_sight_goes_ahead(self):
        course, sightings = many_leaves(12)
        self.refused(NoSight, {"number": 13}, tree_of, course, [*sightings, None])
        self.refused(NoSight, {"number": -1}, tree_of, course, sightings * 3)


class ByChance(Refusals):

    def test_node_by_node(self):
        for chance in chances(250, 41):
            work = some_work(chance, presses=8)
            course = some_course(chance, work)
            begin = chance.choice([0, 0, 3, 12])
            rows = chance.choice([None, some_rows(chance, work)])
            sightings = sightings_of(chance, course, chance.randint(1, 8), begin, last=chance.choice([1, 3, 8, 60]),
                                     rows=rows)
            try:
                due = slow_tree(course, sightings, begin)
            except TooMany:
                self.refused(TooMany, {"many": 200}, tree_of, course, sightings, begin=begin)
                continue
            self.assertEqual(tree_of(course, sightings, begin=begin), due)

    def test_all_beginnings_one_by_one(self):
        for chance in chances(60, 42):
            work = some_work(chance, longs=(1, 1, 2), presses=6)
            if len(work.signs()) ** len(work) > 300:
                continue
            course = some_course(chance, work, last=6)
            begin = chance.choice([0, 2])
            rows = chance.choice([None, some_rows(chance, work)])
            sightings = sightings_of(chance, course, chance.randint(1, 5), begin, last=6, rows=rows)
            leaves = slow_boxes(work, tree_of(course, sightings, begin=begin))
            for rows in all_rows(work):
                found = [node for node, box in leaves if in_box(box, rows)]
                self.assertEqual(len(found), 1)
                self.assertIs(shows(course, rows, sightings, begin), found == [("fits",)])
                if found != [("fits",)]:
                    self.assertFalse(shows(course, rows, [sightings[found[0][1]]], begin))

    def test_far(self):
        for chance in chances(20, 43):
            work = some_work(chance)
            begin = FAR // 10 // work.common() * work.common()
            sightings = sightings_of(chance, Course(work), 4, rows=some_rows(chance, work))
            far = [(beat + begin, place, sign) for beat, place, sign in sightings]
            self.assertEqual(tree_of(Course(work), far, begin=begin), slow_tree(Course(work), sightings))


if __name__ == "__main__":
    unittest.main()
