"""What a look shows, looks at that, what a further look would tell, the best of some looks."""

import unittest

from bandprint.bands import Band, Press, Work
from bandprint.boxes import boxes, how_many
from bandprint.courses import Course
from bandprint.errors import NoLook, NoSight, TooMany
from bandprint.shown import best_look, shown, shows_shown, would
from bandprint.signs import DEEPEST
from bandprint.trees import tree_of
from tests.samples import (FAR, Refusals, chances, odd_things, small_work, some_course, some_rows, some_work)
from tests.slowcases import (all_rows, end_of_look, in_box, many_leaves, place_sign, shows, sightings_of, slow_boxes,
                             slow_cases, slow_grown, slow_run, slow_shown)
from tests.test_treelooks import partings, renumbered

A, B = ("a", 0), ("b", 0)
FAR_BEGIN = FAR // 10


def seen_at(course, rows, look, begin=0):
    """The sign that a run shows at a look."""
    return place_sign(course.work(), slow_run(course, rows, look[0] - begin, begin)[-1], look[1])


def many_reads(last):
    """A course of four signs whose look has 4 ** 3 times so many leaves (to 4)."""
    cycles = ("abcd", "bcda", "cdab", "dabc")
    presses = [Press(("k", 0), ("d", 0), ("abcd"[:last] + "a" * (4 - last),) * 4, rhythm="-x")]
    presses = presses + [Press((name, 0), ("e", 0), cycles, rhythm="-x") for name in "abcd"]
    work = Work("abcd", [*[Band(name, 1) for name in "abcdek"]], presses)
    return Course(work, puts=[(1, ("e", 0), "a"), (1, ("k", 0), "a")]), (2, ("e", 0))


class Shown(Refusals):

    def test_by_hand(self):
        course = Course(small_work())
        self.assertEqual(shown(course, (0, ("two", 1))),
                         [("split", ("two", 1), (("a", 1), ("b", 2))), ("shows", "a"), ("shows", "b")])
        self.assertEqual(shown(course, (1, ("two", 0))), [
            ("split", ("one", 2), (("a", 1), ("b", 4))),
            ("split", ("two", 1), (("a", 2), ("b", 3))), ("shows", "a"), ("shows", "b"),
            ("split", ("two", 1), (("b", 5), ("a", 6))), ("shows", "a"), ("shows", "b")])
        laid = Course(small_work(), puts=[(1, ("two", 0), "b")])
        self.assertEqual(shown(laid, (1, ("two", 0))), [("shows", "b")])
        self.assertEqual(shown(laid, (1, ("two", 0)), begin=1),
                         [("split", ("two", 0), (("a", 1), ("b", 2))), ("shows", "a"), ("shows", "b")])
        self.assertEqual(shown(course=course, look=(9, ("two", 1)), begin=9), shown(course, (0, ("two", 1))))
        self.assertRaises(TypeError, shown, course, (9, ("two", 1)), 9)

    def test_a_leaf_for_each_sign(self):
        work = Work("abcd", [Band("a", 1), Band("b", 1)], [Press(A, B, ("bcda", "aabb", "cccc", "dbca"))])
        self.assertEqual(shown(Course(work), (1, B)), [
            ("split", A, (("a", 1), ("b", 6), ("c", 9), ("d", 10))),
            ("split", B, (("d", 2), ("a", 3), ("b", 4), ("c", 5))), *[("shows", sign) for sign in "abcd"],
            ("split", B, (("ab", 7), ("cd", 8))), ("shows", "a"), ("shows", "b"),
            ("shows", "c"),
            ("split", B, (("d", 11), ("b", 12), ("c", 13), ("a", 14))), *[("shows", sign) for sign in "abcd"]])

    def test_node_by_node(self):
        for chance in chances(200, 71):
            work = some_work(chance, presses=8)
            course = some_course(chance, work)
            begin = chance.choice([0, 0, 3, 12])
            look = (begin + chance.choice([0, 1, 3, 8, 60]), chance.choice(work.places()))
            try:
                due = slow_shown(course, look, begin)
            except TooMany:
                self.refused(TooMany, {"many": 200}, shown, course, look, begin=begin)
                continue
            self.assertEqual(shown(course, look, begin=begin), due)
            self.assertTrue(shows_shown(course, look, due, begin=begin))

    def test_all_beginnings_one_by_one(self):
        for chance in chances(40, 72):
            work = some_work(chance, longs=(1, 2), presses=6, signs=("ab", "abc"))
            if len(work.signs()) ** len(work) > 300:
                continue
            course = some_course(chance, work, last=6)
            look = (chance.randint(0, 6), chance.choice(work.places()))
            leaves = slow_boxes(work, shown(course, look))
            for rows in all_rows(work):
                self.assertEqual([node for node, box in leaves if in_box(box, rows)],
                                 [("shows", seen_at(course, rows, look))])

    def test_leaves_at_the_bound(self):
        course, look = many_reads(3)
        told = shown(course, look)
        self.assertEqual(len([node for node in told if node[0] == "shows"]), 192)
        self.assertEqual(told, slow_shown(course, look))
        course, look = many_reads(4)
        self.refused(TooMany, {"many": 200}, shown, course, look)
        self.refused(NoLook, {"look": (61, ("e", 0))}, shown, course, (61, ("e", 0)))
        # The look at it is never too long.
        self.assertIs(shows_shown(course, look, [("shows", "a")]), False)


class LooksAtShown(Refusals):

    TREE = [("split", ("two", 1), (("a", 1), ("b", 2))), ("shows", "a"), ("shows", "b")]

    def lets(self, thing, look=(0, ("two", 1))):
        """What the look says of a thing."""
        told = shows_shown(Course(small_work()), look, thing)
        self.assertIsInstance(told, bool)
        return told

    def test_by_hand(self):
        self.assertTrue(self.lets(self.TREE))
        self.assertTrue(self.lets([("split", ("two", 1), (("b", 2), ("a", 1))), *self.TREE[1:]]))
        self.assertFalse(self.lets([("split", ("two", 1), (("b", 1), ("a", 2))), *self.TREE[1:]]))
        self.assertFalse(self.lets(self.TREE, (0, ("two", 2))))
        self.assertFalse(self.lets([("shows", "a")]))
        self.assertTrue(self.lets([("split", ("one", 2), (("ab", 1),)), ("split", ("two", 1), (("a", 3), ("b", 2))),
                                   ("shows", "b"), ("shows", "a")]))

    def test_other_leaves(self):
        for leaf in [("fits",), ("clashes", 0), ("same",), ("shows", "b"), ("shows", "c"), ("shows",),
                     ("shows", "a", "a"),
                     ["shows", "a"], ("shows", 0), ("shows", None), ("shows", ["a"]), ("shows", ""), "a", None,
                     *odd_things()]:
            self.assertFalse(self.lets([self.TREE[0], leaf, self.TREE[2]]), leaf)
        laid = Course(small_work(), puts=[(1, ("two", 0), "b")])
        self.assertTrue(shows_shown(laid, (1, ("two", 0)), [("shows", "b")]))
        self.assertFalse(shows_shown(laid, (1, ("two", 0)), [("shows", "a")]))
        self.assertFalse(shows_shown(laid, (1, ("two", 0)), [("fits",)]))

    def test_anything(self):
        for thing in odd_things() + [tuple(self.TREE), self.TREE[:2], self.TREE + [("shows", "a")], self.TREE[::-1],
                                     []]:
            self.assertFalse(self.lets(thing))

    def test_reads_of_several_signs(self):
        work = Work("ab", [Band("a", 1), Band("b", 1)], [Press(A, B, ("aa", "aa"))])
        self.assertFalse(shows_shown(Course(work), (1, B), [("shows", "a")]))
        self.assertTrue(shows_shown(Course(work), (1, B),
                                    [("split", A, (("b", 2), ("a", 1))), ("shows", "a"), ("shows", "a")]))

    def test_trees_of_another_hand(self):
        for chance in chances(60, 73):
            work = some_work(chance, longs=(1, 2), presses=4, signs=("ab", "abc"))
            course = some_course(chance, work, last=4)
            begin = chance.choice([0, 2])
            look = (begin + chance.randint(0, 4), chance.choice(work.places()))
            left = [chance.randint(0, 3)]

            def end_of_box(box):
                places = [place for place in work.places() if len(box[place]) > 1]
                if left[0] > 0 and places:
                    left[0] -= 1
                    place = chance.choice(places)
                    return ("split", place, partings(box[place], chance))
                return slow_cases(course, [look], begin, box, end_of_look(look))
            try:
                nodes = renumbered(chance, slow_grown(work, end_of_box))
            except TooMany:
                continue
            self.assertTrue(shows_shown(course, look, nodes, begin=begin))
            at = chance.choice([at for at, node in enumerate(nodes) if node[0] == "shows"])
            others = [sign for sign in work.signs() if ("shows", sign) != nodes[at]]
            self.assertFalse(shows_shown(course, look, nodes[:at] + [("shows", chance.choice(others))] + nodes[at + 1:],
                                         begin=begin))
            if len(nodes) > 1:
                self.assertFalse(shows_shown(course, look, nodes[:-1], begin=begin))

    def test_by_places_and_by_names(self):
        thing = list(self.TREE)
        self.assertTrue(shows_shown(course=Course(small_work()), look=(7, ("two", 1)), thing=thing, begin=7))
        self.assertRaises(TypeError, shows_shown, Course(small_work()), (7, ("two", 1)), thing, 7)
        self.assertEqual(thing, self.TREE)


class Would(Refusals):

    def test_by_hand(self):
        course = Course(small_work())
        self.assertEqual(would(course, [], (0, ("two", 1))), {"a": 64, "b": 64})
        self.assertEqual(list(would(course, [], (0, ("two", 1)))), ["a", "b"])
        self.assertEqual(would(course, [(0, ("two", 1), "b")], (0, ("two", 1))), {"a": 0, "b": 64})
        self.assertEqual(would(course, [(0, ("two", 1), "b"), (0, ("two", 1), "a")], (5, ("one", 1))), {"a": 0, "b": 0})
        self.assertEqual(would(course, ((3, ("two", 0), "a"), (0, ("one", 0), "b")), (0, ("two", 3))),
                         {"a": 0, "b": 32})
        self.assertEqual(would(course=course, sightings=[], look=(4, ("two", 1)), begin=4), {"a": 64, "b": 64})
        self.assertRaises(TypeError, would, course, [], (4, ("two", 1)), 4)

    def test_signs_that_never_come(self):
        work = Work("abc", [Band("a", 1), Band("b", 1)], [Press(A, B, ("aaa", "aaa", "aab"))])
        self.assertEqual(would(Course(work), [], (1, B)), {"a": 8, "b": 1, "c": 0})

    def test_beside_all_beginnings(self):
        for chance in chances(40, 74):
            work = some_work(chance, longs=(1, 2), presses=5, signs=("ab", "abc"))
            if len(work.signs()) ** len(work) > 300:
                continue
            course = some_course(chance, work, last=6)
            begin = chance.choice([0, 2])
            rows = chance.choice([None, some_rows(chance, work)])
            sightings = sightings_of(chance, course, chance.randint(0, 3), begin, last=5, rows=rows)
            look = (begin + chance.randint(0, 6), chance.choice(work.places()))
            kept = [rows for rows in all_rows(work) if shows(course, rows, sightings, begin)]
            due = {sign: len([rows for rows in kept if seen_at(course, rows, look, begin) == sign])
                   for sign in work.signs()}
            self.assertEqual(would(course, sightings, look, begin=begin), due)

    def test_with_thirty_sightings(self):
        course = Course(small_work())
        thirty = [(0, ("two", 1), "b")] * 30
        self.assertEqual(would(course, thirty, (0, ("two", 2))), {"a": 32, "b": 32})
        self.assertEqual(would(course, tuple([(0, ("one", 1), "b")] * 30), (DEEPEST, ("one", 1))), {"a": 0, "b": 64})
        self.refused(NoSight, {"number": -1}, would, course, thirty + thirty[:1], (0, ("two", 2)))
        self.assertEqual(best_look(course, thirty, [(0, ("two", 1)), (0, ("two", 2))]), 1)
        self.assertEqual(thirty, [(0, ("two", 1), "b")] * 30)

    def test_too_many(self):
        # With one sighting more the tree has one leaf more.
        course, sightings = many_leaves(7)
        free = (0, ("k", 7))
        self.assertEqual(sum(would(course, sightings, free).values()), how_many(boxes(
            course.work(), tree_of(course, sightings))))
        course, sightings = many_leaves(8)
        self.refused(TooMany, {"many": 200}, would, course, sightings, (0, ("k", 8)))
        self.assertEqual(would(course, sightings, (0, ("k", 7)))["b"], 0)
        self.refused(NoLook, {"look": (0, ("k", 12))}, would, course, sightings, (0, ("k", 12)))
        self.refused(NoSight, {"number": 9}, would, course, [*sightings, None], (0, ("k", 8)))

    def test_the_dict_is_the_asker_s(self):
        course, sightings = Course(small_work()), [(0, ("two", 1), "b")]
        would(course, sightings, (0, ("two", 2))).clear()
        self.assertEqual(would(course, sightings, (0, ("two", 2))), {"a": 32, "b": 32})
        self.assertEqual(sightings, [(0, ("two", 1), "b")])

    def test_far(self):
        course = Course(small_work())
        self.assertEqual(would(course, [(FAR_BEGIN + 3, ("two", 0), "a")], (FAR_BEGIN, ("two", 3)), begin=FAR_BEGIN),
                         {"a": 32, "b": 32})


class BestLook(Refusals):

    def test_by_hand(self):
        course = Course(small_work())
        seen = [(0, ("two", 1), "b")]
        free, known = (0, ("two", 2)), (0, ("two", 1))
        self.assertIsNone(best_look(course, seen, []))
        self.assertEqual(best_look(course, seen, [known]), 0)
        self.assertEqual(best_look(course, seen, [known, free]), 1)
        self.assertEqual(best_look(course, seen, [known, free, free, (0, ("one", 1))]), 1)
        self.assertEqual(best_look(course, seen, [free, known, free]), 0)
        self.assertEqual(best_look(course, [], [known, free]), 0)
        self.assertEqual(best_look(course=course, sightings=[(7, ("two", 1), "b")],
                                   looks=[(7, ("two", 1)), (67, ("one", 1))],
                                   begin=7), 1)
        self.assertRaises(TypeError, best_look, course, [], [known], 0)

    def test_the_greatest_is_least(self):
        work = Work("abc", [Band("a", 1), Band("b", 1)], [Press(A, B, ("aaa", "aab", "abb"))])
        self.assertEqual(would(Course(work), [], (1, B)), {"a": 6, "b": 3, "c": 0})
        self.assertEqual(best_look(Course(work), [], [(1, B), (1, A)]), 1)
        self.assertEqual(best_look(Course(work), [(0, A, "b")], [(0, A), (1, B), (0, B), (1, A)]), 2)
        self.assertEqual(best_look(Course(work), [(0, A, "b")], [(0, A), (1, B)]), 1)

    def test_beside_would(self):
        for chance in chances(25, 75):
            work = some_work(chance, longs=(1, 2, 3), presses=4, signs=("ab", "abc"))
            course = some_course(chance, work, last=6)
            sightings = sightings_of(chance, course, 2, last=5, rows=some_rows(chance, work))
            looks = [(chance.randint(0, 5), chance.choice(work.places())) for _ in range(4)]
            try:
                greatest = [max(would(course, sightings, look).values()) for look in looks]
            except TooMany:
                continue
            self.assertEqual(best_look(course, sightings, looks), greatest.index(min(greatest)))
            self.assertEqual(best_look(course, tuple(sightings), looks[::-1]), greatest[::-1].index(min(greatest)))

    def test_the_first_that_is_no_look_ahead_of_all_trees(self):
        course, sightings = many_leaves(8)
        many = (0, ("k", 8))
        self.refused(TooMany, {"many": 200}, best_look, course, sightings, [many])
        self.refused(TooMany, {"many": 200}, best_look, course, sightings, [(0, ("k", 7)), many])
        self.refused(NoLook, {"look": (0, ("k", 12))}, best_look, course, sightings, [many, (0, ("k", 12)), None])
        self.refused(NoLook, {"look": None}, best_look, course, sightings, [many, None, (0, ("k", 12))])
        self.refused(NoSight, {"number": 9}, best_look, course, [*sightings, None], [None])
        self.assertIsNone(best_look(course, sightings, []))

    def test_a_tree_of_the_sightings_alone_is_not_asked(self):
        course, sightings = many_leaves(9)
        self.refused(TooMany, {"many": 200}, tree_of, course, sightings)
        self.assertIsNone(best_look(course, sightings, []))
        # A sighting of what is read parts it ahead, and leaves fewer leaves.
        self.assertEqual(would(course, sightings, (0, ("d", 0))), {sign: 16 * 4 * 64 for sign in "abcd"})
        self.assertEqual(best_look(course, sightings, [(0, ("d", 0))]), 0)
        self.refused(TooMany, {"many": 200}, best_look, course, sightings, [(0, ("d", 0)), (0, ("k", 9))])


if __name__ == "__main__":
    unittest.main()
