"""Boxes of a tree: what they hold, which rows come first, what is sure."""

import unittest

from bandprint.bands import Band, Press, Work
from bandprint.boxes import boxes, first_rows, has, how_many, sure
from bandprint.courses import Course
from bandprint.errors import NoRows, TooMany
from bandprint.trees import tree_of
from tests.samples import Refusals, chances, mixed_work, small_work, some_course, some_rows, some_work
from tests.slowcases import all_rows, in_box, place_sign, shows, sightings_of

WORK = Work("abc", [Band("a", 2), Band("b", 1)])
# A node's number is no order of its box's rows: the second leaf that fits has the first rows.
TREE = [("split", ("a", 1), (("c", 2), ("ab", 1))),
        ("split", ("a", 0), (("b", 3), ("c", 5), ("a", 4))),
        ("fits",), ("fits",), ("clashes", 0), ("fits",)]


class ByHand(Refusals):

    def test_in_the_order_of_nodes(self):
        self.assertEqual(boxes(WORK, TREE), [("abc", "c", "abc"), ("b", "ab", "abc"), ("c", "ab", "abc")])
        self.assertEqual(boxes(WORK, [("fits",)]), [("abc", "abc", "abc")])
        self.assertEqual(boxes(WORK, [("clashes", 0)]), [])
        self.assertEqual(boxes(work=WORK, tree=[("split", ("b", 0), (("abc", 1),)), ("fits",)]),
                         [("abc", "abc", "abc")])

    def test_leaves_that_fit_alone(self):
        one = [("split", ("b", 0), (("a", 1), ("b", 2), ("c", 3))), ("clashes", 1), ("fits",), ("clashes", 0)]
        self.assertEqual(boxes(WORK, one), [("abc", "abc", "b")])
        self.assertEqual(boxes(WORK, [one[0], ("shows", "a"), ("fits",), ("same",)]), [("abc", "abc", "b")])

    def test_how_many(self):
        self.assertEqual(how_many(boxes(WORK, TREE)), 9 + 6 + 6)
        self.assertEqual(how_many([]), 0)
        self.assertEqual(how_many(found=[("a", "b", "c")]), 1)
        self.assertEqual(how_many([("abcd",) * 40] * 200), 200 * 4 ** 40)

    def test_has(self):
        found = boxes(WORK, TREE)
        for rows in all_rows(WORK):
            due = rows[0][1] == "c" or rows[0][0] in "bc"
            self.assertIs(has(WORK, found, rows), due)
            self.assertIs(has(WORK, [], rows), False)
        self.assertIs(has(work=WORK, found=found, rows=("cc", "c")), True)
        self.assertIs(has(WORK, [("a", "a", "a"), ("b", "b", "b")], ("ab", "a")), False)

    def test_has_of_no_rows(self):
        found = boxes(WORK, TREE)
        self.refused(NoRows, {"number": -1}, has, WORK, found, ["cc", "c"])
        self.refused(NoRows, {"number": -1}, has, WORK, found, None)
        self.refused(NoRows, {"number": 0}, has, WORK, found, ("c", "cc"))
        self.refused(NoRows, {"number": 1}, has, WORK, [], ("cc", "d"))

    def test_first_rows(self):
        self.assertEqual(first_rows(WORK, boxes(WORK, TREE)), ("ac", "a"))
        self.assertEqual(first_rows(WORK, boxes(WORK, TREE)[1:]), ("ba", "a"))
        self.assertEqual(first_rows(WORK, boxes(WORK, TREE)[:0:-1]), ("ba", "a"))
        self.assertEqual(first_rows(work=WORK, found=[("c", "bc", "b"), ("c", "a", "bc")]), ("ca", "b"))
        self.assertIsNone(first_rows(WORK, []))

    def test_sure(self):
        self.assertEqual(sure(WORK, [("c", "a", "b")]), [(("a", 0), "c"), (("a", 1), "a"), (("b", 0), "b")])
        self.assertEqual(sure(WORK, [("c", "a", "b"), ("c", "b", "b")]), [(("a", 0), "c"), (("b", 0), "b")])
        self.assertEqual(sure(WORK, [("c", "ab", "b"), ("c", "ab", "a")]), [(("a", 0), "c")])
        self.assertEqual(sure(WORK, [("bc", "ab", "abc"), ("c", "ab", "a")]), [])
        self.assertEqual(sure(work=WORK, found=[]), [])

    def test_told_lists_are_the_asker_s(self):
        tree = list(TREE)
        boxes(WORK, tree).clear()
        sure(WORK, boxes(WORK, tree)).clear()
        self.assertEqual((tree, boxes(WORK, tree)[0]), (TREE, ("abc", "c", "abc")))
        found = boxes(WORK, tree)
        how_many(found), has(WORK, found, ("ab", "c")), first_rows(WORK, found), sure(WORK, found)
        self.assertEqual(found, boxes(WORK, TREE))

    def test_a_small_work(self):
        sightings = [(0, ("one", 0), "b"), (3, ("two", 0), "a")]
        found = boxes(small_work(), tree_of(Course(small_work()), sightings))
        self.assertEqual(found, [("b", "ab", "ab", "ab", "ab", "ab", "b")])
        self.assertEqual(how_many(found), 32)
        self.assertEqual(first_rows(small_work(), found), ("baa", "aaab"))
        self.assertEqual(sure(small_work(), found), [(("one", 0), "b"), (("two", 3), "b")])


class ByChance(Refusals):

    def test_beside_all_beginnings(self):
        for chance in chances(60, 61):
            work = some_work(chance, longs=(1, 2), presses=6)
            if len(work.signs()) ** len(work) > 300:
                continue
            course = some_course(chance, work, last=6)
            rows = chance.choice([None, some_rows(chance, work)])
            sightings = sightings_of(chance, course, chance.randint(0, 5), last=6, rows=rows)
            found = boxes(work, tree_of(course, sightings))
            due = [rows for rows in all_rows(work) if shows(course, rows, sightings)]
            self.assertEqual(how_many(found), len(due))
            self.assertEqual([rows for rows in all_rows(work) if has(work, found, rows)], due)
            self.assertEqual(first_rows(work, found), min(due, default=None))
            surely = [(place, sign) for place in work.places() for sign in work.signs()
                      if due and all(place_sign(work, rows, place) == sign for rows in due)]
            self.assertEqual(sure(work, found), surely)
            for rows in due:
                self.assertEqual(len([box for box in found if in_box(box, rows)]), 1)

    def test_of_many_places(self):
        work = mixed_work()
        course = Course(work)
        for chance in chances(20, 62):
            rows = some_rows(chance, work)
            sightings = [(0, place, place_sign(work, rows, place)) for place in work.places()]
            chance.shuffle(sightings)
            try:
                found = boxes(work, tree_of(course, sightings))
            except TooMany:
                self.fail("sightings at begin part nothing else")
            self.assertEqual(found, [tuple("".join(rows))])
            self.assertEqual(sure(work, found), sorted([told[1:] for told in sightings],
                                                       key=lambda told: work.places().index(told[0])))

    def test_a_lossy_press_leaves_more(self):
        work = Work("ab", [Band("a", 1), Band("b", 1)], [Press(("a", 0), ("b", 0), ("aa", "bb"))])
        found = boxes(work, tree_of(Course(work), [(1, ("b", 0), "b")]))
        self.assertEqual((found, how_many(found)), ([("b", "ab")], 2))


if __name__ == "__main__":
    unittest.main()
