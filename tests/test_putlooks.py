"""Looks at papers of puts: what they let by and what they don't."""

import unittest

from bandprint.boxes import boxes
from bandprint.bands import Band, Press, Work
from bandprint.courses import Course
from bandprint.errors import NoRows, NoSight, TooMany
from bandprint.putlooks import shows_puts
from bandprint.puts import fewest_puts
from bandprint.signs import DEEPEST
from bandprint.treelooks import shows_tree
from bandprint.trees import tree_of
from tests.samples import FAR, Refusals, chances, odd_things, small_work, some_course, some_rows, some_work
from tests.slowcases import all_rows, in_box, shows
from tests.test_puts import cost
from tests.test_treelooks import bent, other_hand, renumbered

A, B = ("a", 0), ("b", 0)
ROWS = ("aba", "abba")
WISH = [(("two", 0), "a")]


def is_so(course, rows, sightings, thing, prices, begin):
    """Whether a thing of the right kinds is a paper of puts, told by its definition."""
    work = course.work()
    if not shows_tree(course, sightings, thing[-1], begin=begin):
        return False
    found = boxes(work, thing[-1])
    if thing[0] == "never":
        return not found
    _, price, other, _ = thing
    least = [sum(each for each, sign, signs in zip(prices, "".join(rows), box) if sign not in signs) for box in found]
    return (any(in_box(box, other) for box in found) and cost(work, rows, other, prices) == price
            and all(each >= price for each in least))


class Looks(Refusals):

    COURSE = Course(small_work())
    TOLD = fewest_puts(COURSE, ROWS, WISH, 1)
    NEVER = [(("one", 0), "b"), (("one", 0), "a")]

    def lets(self, due, *things, course=COURSE, rows=ROWS, wish=WISH, beats=1, begin=0, prices=None):
        """What the look says of things."""
        for thing in things:
            told = shows_puts(course, rows, wish, beats, thing, begin=begin, prices=prices)
            self.assertIs(told, due, thing)

    def test_the_told_paper(self):
        words = []
        for chance in chances(100, 301):
            work = some_work(chance, longs=(1, 2, 3), presses=5)
            begin = chance.choice([0, 2, FAR // 10])
            course = some_course(chance, work, first=begin, last=begin + 5)
            rows, beats = some_rows(chance, work), chance.randint(0, 6)
            wish = [(chance.choice(work.places()), chance.choice(work.signs())) for _ in range(chance.randint(0, 3))]
            prices = chance.choice([None, tuple(chance.randint(0, 5) for _ in work.places())])
            try:
                told = fewest_puts(course, rows, wish, beats, begin=begin, prices=prices)
            except TooMany:
                continue
            words.append(told[0])
            self.lets(True, told, course=course, rows=rows, wish=wish, beats=beats, begin=begin, prices=prices)
            self.lets(True, told, course=course, rows=rows, wish=tuple(wish), beats=beats, begin=begin, prices=prices)
        self.assertGreater(words.count("never"), 5)

    def test_anything(self):
        self.lets(True, self.TOLD)
        word, price, rows, tree = self.TOLD
        self.lets(False, *odd_things(), list(self.TOLD), self.TOLD[:3], (*self.TOLD, None), self.TOLD[::-1], tree,
                  ("never", tree), ("Puts", price, rows, tree), ("never", price, rows, tree), (True, price, rows, tree),
                  ("puts", tree), ("puts",), ("never",), (), (word, price, tree, rows))
        for thing in odd_things():
            self.lets(False, (word, thing, rows, tree) if repr(thing) != "1" else None, (word, price, thing, tree),
                      (word, price, rows, thing), ("never", thing))

    def test_prices(self):
        word, price, rows, tree = self.TOLD
        self.assertEqual(price, 1)
        self.lets(False, *[(word, other, rows, tree) for other in [0, 2, -1, True, 1.0, "1", None, 10 ** 30]])
        self.lets(True, self.TOLD, prices=(1,) * 7)
        self.lets(False, self.TOLD, prices=(2,) * 7)
        self.lets(True, (word, 2, rows, tree), prices=(2,) * 7)
        self.lets(True, (word, 0, rows, tree), prices=(0,) * 7)
        self.lets(False, (word, False, rows, tree), prices=(0,) * 7)

    def test_rows(self):
        word, price, _, tree = self.TOLD
        # One laid otherwise, in a leaf that fits; one, in none; two.
        fits = [("abb", "abba"), ("aba", "aaba")]
        self.lets(True, *[(word, 1, other, tree) for other in fits])
        self.lets(False, *[(word, price, other, tree) for other in
                           [ROWS, ("bba", "abba"), ("aba", "abbb"), ("bbb", "abba"), list(fits[0]), ("abb",), "abbabba",
                            ("abb", "abbc"), (["abb"], "abba"), None]])
        self.lets(False, (word, 2, ("bbb", "abba"), tree), (word, 0, ROWS, tree))
        # In a leaf that fits, at its own cost, but another leaf lacks less.
        dear = tuple(9 if place == ("two", 1) else 2 for place in small_work().places())
        self.lets(True, (word, 2, fits[0], tree), prices=dear)
        self.lets(False, (word, 9, fits[1], tree), prices=dear)

    def test_never(self):
        told = fewest_puts(self.COURSE, ROWS, self.NEVER, 0)
        self.assertEqual(told[0], "never")
        self.lets(True, told, wish=self.NEVER, beats=0)
        self.lets(False, ("puts", 0, ROWS, told[1]), list(told), (*told, 0), ("never", tuple(told[1])),
                  ("never", told[1][1:]), ("puts", told[1]), wish=self.NEVER, beats=0)
        # A tree in which some leaf fits.
        self.lets(False, ("never", self.TOLD[3]))
        self.lets(False, ("never", tree_of(self.COURSE, [(0, ("one", 0), "b")])), wish=[(("one", 0), "b")], beats=0)

    def test_trees_of_another_hand(self):
        done, wrong = 0, 0
        for chance in chances(120, 302):
            work = some_work(chance, longs=(1, 2), presses=4, signs=("ab", "abc"))
            begin, beats = chance.choice([0, 2]), chance.randint(0, 4)
            course, rows = some_course(chance, work, last=5), some_rows(chance, work)
            wish = [(chance.choice(work.places()), chance.choice(work.signs())) for _ in range(chance.randint(1, 2))]
            sightings = [(begin + beats, place, sign) for place, sign in wish]
            prices = tuple(chance.randint(0, 3) for _ in work.places())
            try:
                tree = renumbered(chance, other_hand(chance, course, sightings, begin, chance.randint(0, 3)))
                told = fewest_puts(course, rows, wish, beats, begin=begin, prices=prices)
            except TooMany:
                continue
            thing = (*told[:-1], tree)
            self.assertTrue(is_so(course, rows, sightings, thing, prices, begin))
            self.lets(True, thing, course=course, rows=rows, wish=wish, beats=beats, begin=begin, prices=prices)
            for _ in range(4):
                other = bent(chance, work, tree, len(sightings))
                thing = (*told[:-1], other)
                due = is_so(course, rows, sightings, thing, prices, begin)
                done, wrong = done + 1, wrong + (not due)
                self.lets(due, thing, course=course, rows=rows, wish=wish, beats=beats, begin=begin, prices=prices)
            if told[0] == "puts":
                for other in all_rows(work)[:40]:
                    for price in (told[1], cost(work, rows, other, prices)):
                        thing = ("puts", price, other, tree)
                        due = (shows(course, other, sightings, begin) and price == told[1]
                               and cost(work, rows, other, prices) == price)
                        self.lets(due, thing, course=course, rows=rows, wish=wish, beats=beats, begin=begin,
                                  prices=prices)
        self.assertGreater(min(wrong, done - wrong), 30)

    def test_more_than_most_leaves(self):
        # The answer is refused, the look isn't: its thing is looked at.
        bands = [*[Band(name, 1) for name in "abcde"]]
        cycles = ("abcd", "bcda", "cdab", "dabc")
        work = Work("abcd", bands, [Press((name, 0), ("e", 0), cycles) for name in "abcd"])
        course, rows, wish = Course(work), ("a",) * 5, [(("e", 0), "a")]
        self.refused(TooMany, {"many": 200}, fewest_puts, course, rows, wish, 1)
        self.lets(False, self.TOLD, ("never", [("fits",)]), ("puts", 0, rows, [("fits",)]), course=course, rows=rows,
                  wish=wish)

    def test_refused_ahead_of_the_thing(self):
        for thing in [None, self.TOLD]:
            self.refused(NoSight, {"number": 0}, shows_puts, self.COURSE, ROWS, WISH, DEEPEST + 1, thing)
            self.refused(NoSight, {"number": 1}, shows_puts, self.COURSE, ROWS, WISH + [None], 1, thing)
            self.refused(NoSight, {"number": 0}, shows_puts, self.COURSE, ROWS, [(("two", 4), "a")], 1, thing)
            self.refused(NoSight, {"number": -1}, shows_puts, self.COURSE, ROWS, None, 1, thing)
            self.refused(NoSight, {"number": -1}, shows_puts, self.COURSE, ROWS, WISH * 31, 1, thing)
            self.refused(NoRows, {"number": -1}, shows_puts, self.COURSE, list(ROWS), WISH, 1, thing)

    def test_by_places_and_by_names(self):
        thing = tuple(self.TOLD)
        kept = list(thing[3])
        self.assertTrue(shows_puts(course=self.COURSE, rows=ROWS, wish=WISH, beats=1, thing=thing, begin=0,
                                   prices=None))
        self.assertRaises(TypeError, shows_puts, self.COURSE, ROWS, WISH, 1, thing, 0)
        self.assertEqual((thing[3], WISH), (kept, [(("two", 0), "a")]))

    def test_true_is_no_price(self):
        work = Work("ab", [Band("a", 1), Band("b", 1)], [Press(A, B, ("aa", "bb"))])
        told = fewest_puts(Course(work), ("a", "b"), [(B, "b")], 1)
        self.lets(True, told, course=Course(work), rows=("a", "b"), wish=[(B, "b")])
        self.lets(False, ("puts", True, *told[2:]), course=Course(work), rows=("a", "b"), wish=[(B, "b")])


if __name__ == "__main__":
    unittest.main()
