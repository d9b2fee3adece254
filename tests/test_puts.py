"""Fewest puts: a wish's sightings, what a leaf lacks, the least price and rows that cost it."""

import unittest

from bandprint.bands import Band, Press, Work
from bandprint.boxes import boxes
from bandprint.courses import Course
from bandprint.errors import NoRows, NoSight, TooMany
from bandprint.puts import fewest_puts, lacks, wish_sightings
from bandprint.signs import DEEPEST
from bandprint.treelooks import shows_tree
from bandprint.trees import tree_of
from tests.samples import FAR, Refusals, chances, small_work, some_course, some_rows, some_work
from tests.slowcases import all_rows, in_box, many_leaves, place_sign, shows

A, B = ("a", 0), ("b", 0)
ROWS = ("aba", "abba")


def cost(work, rows, other, prices):
    """The prices of all places where rows are unlike."""
    return sum(price for price, place in zip(prices, work.places())
               if place_sign(work, rows, place) != place_sign(work, other, place))


class Sightings(Refusals):

    def test_by_hand(self):
        wish = [(B, "a"), (A, "b"), (B, "a")]
        self.assertEqual(wish_sightings(wish, 3), [(3, B, "a"), (3, A, "b"), (3, B, "a")])
        self.assertEqual(wish_sightings(tuple(wish), 0), [(0, B, "a"), (0, A, "b"), (0, B, "a")])
        self.assertEqual(wish_sightings(wish=wish, beats=60, begin=FAR // 10)[0], (FAR // 10 + 60, B, "a"))
        self.assertEqual(wish_sightings([], 3), [])
        self.assertEqual(wish_sightings(wish, 3, begin=0), wish_sightings(wish, 3))
        self.assertRaises(TypeError, wish_sightings, wish, 3, 0)
        wish_sightings(wish, 3).clear()
        self.assertEqual(wish, [(B, "a"), (A, "b"), (B, "a")])


class Lacks(Refusals):

    WORK = Work("abc", [Band("a", 2), Band("b", 1)])

    def test_by_hand(self):
        box = ("ab", "c", "bc")
        self.assertEqual(lacks(self.WORK, box, ("ac", "b")), 0)
        self.assertEqual(lacks(self.WORK, box, ("cc", "b")), 1)
        self.assertEqual(lacks(self.WORK, box, ("ca", "a")), 3)
        self.assertEqual(lacks(self.WORK, box, ("ca", "a"), prices=(5, 0, 7)), 12)
        self.assertEqual(lacks(self.WORK, box, ("ca", "a"), prices=(5, 3, 7)), 15)
        self.assertEqual(lacks(self.WORK, box, ("ba", "c"), prices=(5, 10 ** 30, 7)), 10 ** 30)
        self.assertEqual(lacks(work=self.WORK, box=box, rows=("ca", "a"), prices=None), 3)
        self.assertEqual(lacks(self.WORK, box, ("ca", "a"), prices=(1, 1, 1)), 3)
        self.assertRaises(TypeError, lacks, self.WORK, box, ("ca", "a"), None)

    def test_no_rows(self):
        self.refused(NoRows, {"number": 1}, lacks, self.WORK, ("ab", "c", "bc"), ("ac", "d"))
        self.refused(NoRows, {"number": -1}, lacks, self.WORK, ("ab", "c", "bc"), ["ac", "b"])

    def test_it_is_the_least_cost_of_rows_in_the_box(self):
        for chance in chances(20, 81):
            work = some_work(chance, longs=(1, 2), signs=("ab", "abc"))
            box = tuple("".join(sorted(chance.sample(work.signs(), chance.randint(1, len(work.signs())))))
                        for _ in work.places())
            rows, prices = some_rows(chance, work), tuple(chance.randint(0, 4) for _ in work.places())
            due = min(cost(work, rows, other, prices) for other in all_rows(work) if in_box(box, other))
            self.assertEqual(lacks(work, box, rows, prices=prices), due)


class FewestPuts(Refusals):

    def test_by_hand(self):
        course = Course(small_work())
        wish = [(("two", 0), "a")]
        tree = tree_of(course, [(1, ("two", 0), "a")])
        _, price, rows, told = fewest_puts(course, ROWS, wish, 1)
        self.assertEqual((price, told), (1, tree))
        self.assertIn(rows, [("abb", "abba"), ("aba", "aaba")])
        self.assertEqual(fewest_puts(course, ("abb", "abba"), wish, 1), ("puts", 0, ("abb", "abba"), tree))
        dear = tuple(9 if place == ("two", 1) else 2 for place in small_work().places())
        self.assertEqual(fewest_puts(course, ROWS, wish, 1, prices=dear), ("puts", 2, ("abb", "abba"), tree))
        dear = tuple(2 if place == ("two", 1) else 9 for place in small_work().places())
        self.assertEqual(fewest_puts(course, ROWS, wish, 1, prices=dear), ("puts", 2, ("aba", "aaba"), tree))

    def test_at_once(self):
        course = Course(small_work(), puts=[(4, ("one", 0), "a")])
        self.assertEqual(fewest_puts(course, ROWS, [(("one", 0), "b"), (("one", 1), "a")], 0, begin=4)[:3],
                         ("puts", 2, ("baa", "abba")))

    def test_a_wish_of_none(self):
        self.assertEqual(fewest_puts(Course(small_work()), ROWS, [], 5), ("puts", 0, ROWS, [("fits",)]))
        self.assertEqual(fewest_puts(Course(small_work()), ROWS, (), 500), ("puts", 0, ROWS, [("fits",)]))

    def test_one_place_twice(self):
        course = Course(small_work())
        self.assertEqual(fewest_puts(course, ROWS, [(("one", 0), "b")] * 2, 0)[:3], ("puts", 1, ("bba", "abba")))
        told = fewest_puts(course, ROWS, [(("one", 0), "b"), (("one", 0), "a")], 0)
        self.assertEqual(told, ("never", tree_of(course, [(0, ("one", 0), "b"), (0, ("one", 0), "a")])))

    def test_never(self):
        course = Course(small_work(), puts=[(1, ("two", 0), "a")])
        self.assertEqual(fewest_puts(course, ROWS, [(("two", 0), "b")], 1), ("never", [("clashes", 0)]))
        self.assertEqual(fewest_puts(course, ROWS, [(("two", 0), "a")], 1), ("puts", 0, ROWS, [("fits",)]))

    def test_prices_left_out_and_of_one(self):
        course, wish = Course(small_work()), [(("two", 0), "a"), (("two", 3), "b")]
        told = fewest_puts(course, ROWS, wish, 3)
        self.assertEqual(fewest_puts(course, ROWS, wish, 3, prices=(1,) * 7), told)
        self.assertEqual(fewest_puts(course, ROWS, wish, 3, prices=None, begin=0), told)
        self.assertEqual(fewest_puts(course=course, rows=ROWS, wish=tuple(wish), beats=3), told)
        self.assertRaises(TypeError, fewest_puts, course, ROWS, wish, 3, 0)
        self.assertEqual(fewest_puts(course, ROWS, wish, 3, prices=(0,) * 7)[1], 0)

    def test_beside_all_rows(self):
        for chance in chances(60, 82):
            work = some_work(chance, longs=(1, 2), presses=5, signs=("ab", "abc"))
            if len(work.signs()) ** len(work) > 300:
                continue
            course, rows = some_course(chance, work, last=5), some_rows(chance, work)
            begin, beats = chance.choice([0, 2]), chance.randint(0, 6)
            wish = [(chance.choice(work.places()), chance.choice(work.signs())) for _ in range(chance.randint(0, 3))]
            prices = chance.choice([None, tuple(chance.randint(0, 5) for _ in work.places())])
            told = fewest_puts(course, rows, wish, beats, begin=begin, prices=prices)
            sightings = [(begin + beats, place, sign) for place, sign in wish]
            prices = prices or (1,) * len(work)
            costs = [cost(work, rows, other, prices) for other in all_rows(work)
                     if shows(course, other, sightings, begin)]
            self.assertEqual(told[-1], tree_of(course, sightings, begin=begin))
            self.assertTrue(shows_tree(course, sightings, told[-1], begin=begin))
            if not costs:
                self.assertEqual(told[:-1], ("never",))
                continue
            self.assertEqual(told[:2], ("puts", min(costs)))
            self.assertEqual(cost(work, rows, told[2], prices), min(costs))
            self.assertTrue(shows(course, told[2], sightings, begin))
            self.assertTrue(any(in_box(box, told[2]) and lacks(work, box, rows, prices=prices) == told[1]
                                for box in boxes(work, told[-1])))

    def test_refused(self):
        course, sightings = many_leaves(0)
        rows = ("a", "a", "a", "a", "a", "a" * 12)
        wish = [(("e", 0), "b")]
        self.assertEqual(fewest_puts(course, rows, wish, 2)[:2], ("puts", 1))
        more = Course(course.work(), puts=course.puts(), lifts=[(1, 0, "up")])
        self.refused(TooMany, {"many": 200}, fewest_puts, more, rows, wish, 2)
        self.refused(NoSight, {"number": 0}, fewest_puts, more, rows, wish, DEEPEST + 1)
        self.refused(NoSight, {"number": 1}, fewest_puts, more, rows, wish + [None], 2)
        self.refused(NoRows, {"number": -1}, fewest_puts, course, list(rows), wish, 2)
        self.assertEqual(len(sightings), 1)

    def test_no_rows_though_never(self):
        laid = Course(small_work(), puts=[(1, ("two", 0), "a")])
        for rows, number in [(list(ROWS), -1), (("aba",), -1), (("abba", "aba"), 0), (("aba", "abbc"), 1)]:
            self.refused(NoRows, {"number": number}, fewest_puts, laid, rows, [(("two", 0), "b")], 1)
            self.refused(NoRows, {"number": number}, fewest_puts, laid, rows, [(("two", 0), "a")], 1)

    def test_told_lists_are_the_asker_s(self):
        course, wish = Course(small_work()), [(("two", 0), "a")]
        told = fewest_puts(course, ROWS, wish, 1)
        told[3].clear()
        self.assertEqual(fewest_puts(course, ROWS, wish, 1)[3], tree_of(course, [(1, ("two", 0), "a")]))
        self.assertEqual((wish, ROWS), ([(("two", 0), "a")], ("aba", "abba")))

    def test_far(self):
        course, begin = Course(small_work()), FAR // 10
        self.assertEqual(fewest_puts(course, ROWS, [(("one", 1), "a")], 1, begin=begin)[:3], ("puts", 0, ROWS))
        self.assertEqual(fewest_puts(course, ROWS, [(("one", 2), "a")], 1, begin=begin)[:3],
                         ("puts", 1, ("aaa", "abba")))


class Copies(Refusals):

    def test_a_lossy_press(self):
        work = Work("ab", [Band("a", 1), Band("b", 1)], [Press(A, B, ("aa", "bb"))])
        self.assertEqual(fewest_puts(Course(work), ("a", "b"), [(B, "b")], 1)[:3], ("puts", 1, ("b", "b")))
        self.assertEqual(fewest_puts(Course(work), ("b", "a"), [(B, "b")], 1)[:3], ("puts", 0, ("b", "a")))


if __name__ == "__main__":
    unittest.main()
