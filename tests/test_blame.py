"""Blame: which few sightings can't be together, and the look at that."""

import unittest

from bandprint.blame import blame, shows_blame
from bandprint.courses import Course
from bandprint.errors import TooMany
from bandprint.trees import tree_of
from tests.samples import FAR, Refusals, chances, odd_things, small_work, some_course, some_rows, some_work
from tests.slowcases import all_rows, many_leaves, shows, sightings_of, slow_boxes, slow_tree
from tests.test_treelooks import bent

SPOT, FREE = ("two", 1), ("one", 1)
# 0 and 2 can't be together, nor 2 and 3: from the last on 3 is left out, then not 2, then 1, then not 0.
SIGHTINGS = [(0, SPOT, "b"), (0, FREE, "a"), (0, SPOT, "a"), (0, SPOT, "b")]


def slow_blame(course, sightings, begin=0):
    """The numbers that are left, by the slow trees; the trees gone through are told of, too."""
    def fits(numbers):
        return ("fits",) in slow_tree(course, [sightings[number] for number in numbers], begin)
    left = list(range(len(sightings)))
    if fits(left):
        return None
    for number in range(len(sightings))[::-1]:
        others = [each for each in left if each != number]
        if not fits(others):
            left = others
    return left


class Blame(Refusals):

    def test_by_hand(self):
        course = Course(small_work())
        numbers, tree, rows = blame(course, SIGHTINGS)
        self.assertEqual(numbers, [0, 2])
        self.assertEqual(tree, [("split", SPOT, (("b", 1), ("a", 2))), ("clashes", 1), ("clashes", 0)])
        self.assertEqual((rows[0][1][1], rows[1][1][1]), ("a", "b"))
        self.assertIs(type(rows), list)
        self.assertEqual(blame(course, SIGHTINGS[::-1])[0], [0, 1])
        self.assertEqual(blame(course, SIGHTINGS[1:])[0], [1, 2])
        self.assertEqual(blame(course=course, sightings=tuple(SIGHTINGS), begin=0)[0], [0, 2])
        self.assertRaises(TypeError, blame, course, SIGHTINGS, 0)

    def test_none(self):
        course = Course(small_work())
        for sightings in [[], (), SIGHTINGS[:2], [SIGHTINGS[0], SIGHTINGS[3]]]:
            self.assertIsNone(blame(course, sightings))

    def test_one_alone(self):
        course = Course(small_work(), puts=[(1, ("two", 0), "a")])
        told = blame(course, [(0, SPOT, "b"), (1, ("two", 0), "b"), (1, ("two", 0), "a")])
        self.assertEqual(told[:2], ([1], [("clashes", 0)]))
        self.assertEqual(len(told[2]), 1)
        self.assertTrue(shows_blame(course, [(0, SPOT, "b"), (1, ("two", 0), "b"), (1, ("two", 0), "a")], told))

    def test_by_chance(self):
        found = 0
        for chance in chances(150, 91):
            work = some_work(chance, longs=(1, 2), presses=5, signs=("ab", "abc"))
            if len(work.signs()) ** len(work) > 300:
                continue
            course = some_course(chance, work, last=5)
            begin = chance.choice([0, 2])
            rows = chance.choice([None, some_rows(chance, work)])
            sightings = sightings_of(chance, course, chance.randint(1, 8), begin, last=5, rows=rows)
            told = blame(course, sightings, begin=begin)
            showing = [rows for rows in all_rows(work) if shows(course, rows, sightings, begin)]
            self.assertIs(told is None, bool(showing))
            self.assertIs(shows_blame(course, sightings, told, begin=begin), told is not None)
            if told is None:
                continue
            found += 1
            numbers, tree, rows = told
            self.assertEqual(numbers, slow_blame(course, sightings, begin))
            left = [sightings[number] for number in numbers]
            self.assertEqual(tree, slow_tree(course, left, begin))
            self.assertEqual(len(rows), len(numbers))
            for at, each in enumerate(rows):
                self.assertTrue(shows(course, each, left[:at] + left[at + 1:], begin))
                self.assertFalse(shows(course, each, left[at:at + 1], begin))
        self.assertGreater(found, 50)

    def test_too_many_just_where_a_tree_of_this_going_has(self):
        for more in range(7, 11):
            course, sightings = many_leaves(more)
            clash = (2, ("e", 0), "b")
            # The look at (2, e) has come to one sign in each leaf: a second one there takes no leaf more.
            for told in [sightings, sightings + [clash], [clash] + sightings, sightings[:1] + [clash] + sightings[1:]]:
                try:
                    due = slow_blame(course, told)
                except TooMany:
                    self.refused(TooMany, {"many": 200}, blame, course, told)
                    continue
                found = blame(course, told)
                self.assertEqual(found if due is None else found[0], due)

    def test_too_many_of_a_tree_with_one_left_out(self):
        # Of all, two sightings at begin clash at once; without one of them the reads part far more.
        course, sightings = many_leaves(9)
        clash = (0, ("k", 0), "b")
        told = [*sightings, clash]
        self.assertLess(len(tree_of(course, told)), 30)
        self.refused(TooMany, {"many": 200}, blame, course, told)
        with self.assertRaises(TooMany):
            slow_blame(course, told)
        # Where the others are left out first, no such tree is looked at.
        self.assertEqual(blame(course, [clash, *sightings])[0], [0, 2])
        self.assertEqual(blame(course, [*sightings[:3], clash])[0], [1, 3])

    def test_ahead_of_none_too(self):
        course, sightings = many_leaves(9)
        self.refused(TooMany, {"many": 200}, blame, course, sightings)
        self.assertIsNone(blame(course, sightings[:-1]))
        self.assertEqual(shows_blame(course, sightings, None), False)

    def test_far(self):
        begin = FAR // 10
        far = [(begin, place, sign) for _, place, sign in SIGHTINGS]
        self.assertEqual(blame(Course(small_work()), far, begin=begin)[0], [0, 2])

    def test_nothing_is_changed(self):
        course, sightings = Course(small_work()), list(SIGHTINGS)
        told = blame(course, sightings)
        for each in told:
            each.clear()
        self.assertEqual(sightings, SIGHTINGS)
        self.assertEqual(blame(course, sightings)[0], [0, 2])


class Looks(Refusals):

    ROWS_A, ROWS_B = ("aaa", "aaaa"), ("aaa", "abaa")
    TREE = [("split", SPOT, (("b", 1), ("a", 2))), ("clashes", 1), ("clashes", 0)]

    def lets(self, thing):
        """What the look says of a thing."""
        told = shows_blame(Course(small_work()), SIGHTINGS, thing)
        self.assertIsInstance(told, bool)
        return told

    def test_whoever_wrote_it(self):
        self.assertTrue(self.lets(([0, 2], self.TREE, [self.ROWS_A, self.ROWS_B])))
        self.assertTrue(self.lets(([2, 3], [self.TREE[0], ("clashes", 0), ("clashes", 1)], [self.ROWS_B, self.ROWS_A])))
        self.assertTrue(self.lets(([0, 2], [("split", FREE, (("ab", 1),)), ("split", SPOT, (("a", 2), ("b", 3))),
                                            ("clashes", 0), ("clashes", 1)], [("bbb", "babb"), ("bab", "bbbb")])))

    def test_more_numbers_than_need_be(self):
        # With 1 beside them no rows show the others of 1.
        other = [self.TREE[0], ("clashes", 2), ("clashes", 0)]
        self.assertFalse(self.lets(([0, 1, 2], other, [self.ROWS_A, self.ROWS_A, self.ROWS_B])))
        self.assertFalse(self.lets(([0, 1, 2, 3], self.TREE, [self.ROWS_A] * 4)))

    def test_rows(self):
        for rows in [[self.ROWS_B, self.ROWS_B], [self.ROWS_A, self.ROWS_A], [self.ROWS_B, self.ROWS_A], [self.ROWS_A],
                     [self.ROWS_A, self.ROWS_B, self.ROWS_B], [], None, (self.ROWS_A, self.ROWS_B),
                     [list(self.ROWS_A), self.ROWS_B], [("aaaa", "aaa"), self.ROWS_B], [("aaa", "aaca"), self.ROWS_B],
                     [None, self.ROWS_B], [self.ROWS_A, ("aaa",)], "ab", {0: self.ROWS_A, 1: self.ROWS_B}]:
            self.assertFalse(self.lets(([0, 2], self.TREE, rows)), rows)

    def test_numbers(self):
        rows = [self.ROWS_A, self.ROWS_B]
        for numbers in [[2, 0], [0, 0, 2], [0, 1], [0], [], [0, 4], [0, -2], [-4, 2], [False, 2], [0, 2.0], (0, 2),
                        None,
                        ["0", "2"], [0, None], {0: 0, 2: 2}, [0, 3], [0, 2, 3], [1, 2], [0, [2]], "02"]:
            self.assertFalse(self.lets((numbers, self.TREE, rows)), numbers)
        turned = [self.TREE[0], ("clashes", 0), ("clashes", 1)]
        self.assertTrue(self.lets(([2, 3], turned, rows[::-1])))
        self.assertFalse(self.lets(([2, 0], turned, rows[::-1])))
        self.assertFalse(self.lets(([2, -1], turned, rows[::-1])))
        self.assertFalse(self.lets(([-1, 2], self.TREE, rows)))
        self.assertFalse(self.lets(([-4, 2], self.TREE, rows)))
        self.assertFalse(self.lets(([], [("fits",)], [])))
        self.assertFalse(shows_blame(Course(small_work()), [], ([], [("fits",)], [])))
        self.assertFalse(shows_blame(Course(small_work()), [], ([], [], [])))

    def test_trees(self):
        rows = [self.ROWS_A, self.ROWS_B]
        split, one, none = self.TREE
        for tree in [tuple(self.TREE), [], None, [split, none, one], [split, one], [split, one, none, none],
                     [split, ("clashes", 2), none], [split, ("clashes", 1), ("fits",)], [("fits",)], [("clashes", 0)],
                     [split, one, ("clashes", False)], *odd_things()]:
            self.assertFalse(self.lets(([0, 2], tree, rows)), tree)

    def test_anything(self):
        rows = [self.ROWS_A, self.ROWS_B]
        for thing in odd_things() + [[[0, 2], self.TREE, rows], ([0, 2], self.TREE), ([0, 2], self.TREE, rows, None),
                                     (self.TREE, [0, 2], rows), ([0, 2], rows, self.TREE)]:
            self.assertFalse(self.lets(thing))
        self.assertFalse(shows_blame(Course(small_work()), SIGHTINGS[:2], None))

    def test_a_tree_with_a_leaf_that_fits(self):
        both = [(0, SPOT, "b"), (0, FREE, "a")]
        tree = tree_of(Course(small_work()), both)
        self.assertFalse(shows_blame(Course(small_work()), both, ([0, 1], tree, [self.ROWS_A, self.ROWS_B])))

    def test_bent_papers(self):
        for chance in chances(150, 92):
            work = some_work(chance, longs=(1, 2), presses=4, signs=("ab", "abc"))
            course = some_course(chance, work, last=4)
            sightings = sightings_of(chance, course, 8, last=4)
            told = blame(course, sightings)
            if told is None:
                continue
            numbers, tree, rows = told
            thing = (numbers, bent(chance, work, tree, len(numbers)), rows)
            if shows_blame(course, sightings, thing):
                left = [sightings[number] for number in numbers]
                for _, box in slow_boxes(work, thing[1]):
                    self.assertFalse(shows(course, tuple(_rows(work, box)), left))
            self.assertFalse(shows_blame(course, sightings, (numbers[1:], tree, rows[1:])))
            self.assertFalse(shows_blame(course, sightings, (numbers, tree, rows[1:])))
            at = chance.randrange(len(rows))
            other = rows[:at] + [some_rows(chance, work)] + rows[at + 1:]
            left = [sightings[number] for number in numbers]
            self.assertIs(shows_blame(course, sightings, (numbers, tree, other)),
                          shows(course, other[at], left[:at] + left[at + 1:]))

    def test_by_places_and_by_names(self):
        thing = ([0, 2], list(self.TREE), [self.ROWS_A, self.ROWS_B])
        self.assertTrue(shows_blame(course=Course(small_work()), sightings=tuple(SIGHTINGS), thing=thing, begin=0))
        self.assertRaises(TypeError, shows_blame, Course(small_work()), SIGHTINGS, thing, 0)
        self.assertEqual(thing, ([0, 2], self.TREE, [self.ROWS_A, self.ROWS_B]))
        far = [(7, place, sign) for _, place, sign in SIGHTINGS]
        self.assertTrue(shows_blame(Course(small_work()), far, thing, begin=7))


def _rows(work, box):
    """The first rows of a box, text by text."""
    signs = [text[0] for text in box]
    for band in work.bands():
        yield "".join(signs[:band.long()])
        signs = signs[band.long():]


if __name__ == "__main__":
    unittest.main()
