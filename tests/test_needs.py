"""What sightings need: the asked places and the presses, walked backward."""

import unittest

from bandprint.bands import Band, Press, Work
from bandprint.courses import Course
from bandprint.needs import asked, needed_presses
from tests.samples import FLIP2, KEEP2, Refusals, chances, mixed_course, small_work, some_course, some_rows, some_work
from tests.slowcases import all_rows, place_sign, sightings_of, slow_needs, slow_run

FAR_BEGIN = 10 ** 59


def stacked(*pairs, rhythms=None):
    """A work of four single places with presses of these pairs of names, above ahead of below."""
    presses = [Press((above, 0), (below, 0), FLIP2, rhythm=rhythms[at] if rhythms else "x")
               for at, (above, below) in enumerate(pairs)]
    return Work("ab", [Band(name, 1) for name in "abcd"], presses)


def behind_one(name):
    """A sighting of a single place behind one beat."""
    return [(1, (name, 0), "a")]


def names_of(places):
    """The names of single places."""
    return "".join(name for name, _ in places)


class Needs(Refusals):

    def test_by_hand(self):
        course = Course(small_work())
        self.assertEqual(asked(course, [(1, ("two", 0), "a")]), [("one", 2), ("two", 1)])
        self.assertEqual(needed_presses(course, [(1, ("two", 0), "a")]), [(1, 0)])
        self.assertEqual(asked(course, [(1, ("two", 1), "a")]), [("two", 2)])
        self.assertEqual(needed_presses(course, [(1, ("two", 1), "a")]), [])
        self.assertEqual(asked(course, [(3, ("two", 0), "a")]), [("one", 0), ("two", 3)])
        self.assertEqual(needed_presses(course, [(3, ("two", 0), "a")]), [(3, 0)])
        self.assertEqual(asked(course, [(3, ("two", 2), "a"), (1, ("one", 0), "a")]), [("one", 2), ("two", 1)])
        self.assertEqual(needed_presses(course, [(3, ("two", 2), "a")]), [(1, 0)])
        self.assertEqual(needed_presses(course, [(5, ("two", 0), "a"), (3, ("two", 2), "a"), (2, ("two", 0), "a")]),
                         [(1, 0), (2, 0), (5, 0)])

    def test_of_no_sightings_nothing(self):
        for course in [Course(small_work()), mixed_course()]:
            for begin in [0, 3, FAR_BEGIN]:
                self.assertEqual(asked(course, [], begin=begin), [])
                self.assertEqual(needed_presses(course, (), begin=begin), [])

    def test_sighted_at_begin(self):
        course = Course(small_work(), puts=[(3, ("two", 1), "a")])
        for begin in [0, 3]:
            self.assertEqual(asked(course, [(begin, ("two", 1), "b")], begin=begin), [("two", 1)])
            self.assertEqual(needed_presses(course, [(begin, ("two", 1), "b")], begin=begin), [])
        both = [(3, ("two", 1), "b"), (4, ("two", 0), "a")]
        self.assertEqual(asked(course, both, begin=3), [("one", 2), ("two", 1)])

    def test_puts_end_a_need(self):
        work = small_work()
        self.assertEqual(asked(Course(work, puts=[(1, ("two", 0), "a")]), [(1, ("two", 0), "a")]), [])
        self.assertEqual(needed_presses(Course(work, puts=[(1, ("two", 0), "a")]), [(1, ("two", 0), "a")]), [])
        # Laid ahead of the press that prints on it: above is needed all the same.
        laid = Course(work, puts=[(1, ("two", 1), "a")])
        self.assertEqual(asked(laid, [(2, ("two", 0), "a")]), [("one", 1)])
        self.assertEqual(needed_presses(laid, [(2, ("two", 0), "a")]), [(2, 0)])
        # A sighting behind an elder beat needs it still; a put of a later beat takes nothing from it.
        self.assertEqual(asked(laid, [(2, ("two", 0), "a"), (0, ("two", 2), "a")]), [("one", 1), ("two", 2)])
        late = Course(work, puts=[(2, ("two", 0), "a")])
        self.assertEqual(asked(late, [(1, ("two", 0), "a")]), [("one", 2), ("two", 1)])
        # Puts at begin, or ahead of it, were there before the beginning.
        self.assertEqual(asked(Course(work, puts=[(4, ("two", 1), "a")]), [(5, ("two", 0), "a")], begin=4),
                         [("one", 2), ("two", 1)])

    def test_presses_that_do_not_work(self):
        work = stacked("ab", rhythms=["-x"])
        self.assertEqual(names_of(asked(Course(work), behind_one("b"))), "b")
        self.assertEqual(needed_presses(Course(work), behind_one("b")), [])
        self.assertEqual(names_of(asked(Course(work), [(2, ("b", 0), "a")])), "ab")
        self.assertEqual(needed_presses(Course(work), [(4, ("b", 0), "a")]), [(2, 0), (4, 0)])
        self.assertEqual(names_of(asked(Course(work), [(4, ("b", 0), "a")], begin=3)), "ab")
        lifted = Course(stacked("ab"), lifts=[(1, 0, "up"), (3, 0, "down")])
        self.assertEqual(needed_presses(lifted, [(5, ("b", 0), "a")]), [(1, 0), (4, 0), (5, 0)])
        self.assertEqual(needed_presses(lifted, [(5, ("b", 0), "a")], begin=1), [(4, 0), (5, 0)])
        self.assertEqual(names_of(asked(lifted, [(3, ("b", 0), "a")], begin=1)), "b")

    def test_above_and_below_one_place(self):
        work = stacked("aa", "ab")
        self.assertEqual(needed_presses(Course(work), behind_one("a")), [(1, 0)])
        self.assertEqual(names_of(asked(Course(work), behind_one("a"))), "a")
        self.assertEqual(needed_presses(Course(work), behind_one("b")), [(1, 0), (1, 1)])

    def test_presses_of_one_beat_from_the_last_to_the_first(self):
        down = Course(stacked("ab", "bc", "cd"))
        self.assertEqual(names_of(asked(down, behind_one("d"))), "abcd")
        self.assertEqual(needed_presses(down, behind_one("d")), [(1, 0), (1, 1), (1, 2)])
        up = Course(stacked("cd", "bc", "ab"))
        self.assertEqual(names_of(asked(up, behind_one("d"))), "cd")
        self.assertEqual(needed_presses(up, behind_one("d")), [(1, 0)])
        one = Course(stacked("ad", "bd", "da", "cd"))
        self.assertEqual(needed_presses(one, behind_one("d")), [(1, 0), (1, 1), (1, 3)])
        self.assertEqual(names_of(asked(one, behind_one("d"))), "abcd")
        self.assertEqual(needed_presses(one, behind_one("a")), [(1, 0), (1, 1), (1, 2)])
        self.assertEqual(names_of(asked(one, behind_one("a"))), "abd")

    def test_places_by_bands_and_numbers(self):
        work = Work("ab", [Band("b", 3), Band("a", 12, pace=1)], [Press(("b", 2), ("a", 0), KEEP2)])
        sightings = [(1, ("a", 11), "a"), (1, ("a", 0), "a"), (1, ("b", 1), "a"), (0, ("b", 0), "a"),
                     (1, ("a", 3), "a")]
        due = [("b", 0), ("b", 1), ("b", 2), ("a", 2), ("a", 10), ("a", 11)]
        self.assertEqual(asked(Course(work), sightings), due)
        self.assertEqual(asked(Course(work), sightings[::-1] * 2), due)

    def test_by_places_and_by_names(self):
        course, sightings = Course(small_work()), [(4, ("two", 0), "a")]
        self.assertEqual(asked(course=course, sightings=sightings, begin=3), [("one", 2), ("two", 1)])
        self.assertEqual(needed_presses(course=course, sightings=tuple(sightings), begin=3), [(4, 0)])
        self.assertRaises(TypeError, asked, course, sightings, 3)
        self.assertRaises(TypeError, needed_presses, course, sightings, 3)
        asked(course, sightings).clear()
        needed_presses(course, sightings).clear()
        self.assertEqual(len(asked(course, sightings)), 2)
        self.assertEqual(sightings, [(4, ("two", 0), "a")])

    def test_by_chance_beside_the_slow_way(self):
        for chance in chances(150, 31):
            work = some_work(chance, presses=8)
            course = some_course(chance, work)
            begin = chance.choice([0, 0, 3, 12])
            sightings = sightings_of(chance, course, chance.randint(0, 6), begin, last=chance.choice([2, 8, 60]))
            told = slow_needs(course, sightings, begin)
            self.assertEqual((asked(course, sightings, begin=begin),
                              needed_presses(course, sightings, begin=begin)), told)

    def test_nothing_else_is_needed(self):
        for chance in chances(60, 32):
            work = some_work(chance, longs=(1, 2), presses=6, signs=("ab",))
            course = some_course(chance, work, last=5)
            sightings = sightings_of(chance, course, 2, last=5)
            places = asked(course, sightings)
            told = {}
            for rows in all_rows(work):
                run = slow_run(course, rows, 5)
                seen = [place_sign(work, run[beat], place) for beat, place, _ in sightings]
                key = tuple(place_sign(work, rows, place) for place in places)
                self.assertEqual(told.setdefault(key, seen), seen)

    def test_far(self):
        for chance in chances(20, 33):
            work = some_work(chance)
            near, common = Course(work), work.common()
            begin = FAR_BEGIN // common * common
            rows = some_rows(chance, work)
            sightings = sightings_of(chance, near, 4, rows=rows)
            far = [(beat + begin, place, sign) for beat, place, sign in sightings]
            self.assertEqual(asked(near, far, begin=begin), asked(near, sightings))
            self.assertEqual(needed_presses(near, far, begin=begin),
                             [(beat + begin, number) for beat, number in needed_presses(near, sightings)])


if __name__ == "__main__":
    unittest.main()
