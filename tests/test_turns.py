"""Changes of works, courses, rows and places, and the change that undoes one."""

import unittest

from bandprint.bands import Band, Press, Work
from bandprint.beats import next_rows, run
from bandprint.courses import Course
from bandprint.errors import NoChange, NoPlace, NoRows, TooLong
from bandprint.firsts import first_seen
from bandprint.rounds import behind, round_of
from bandprint.rows import sign_at
from bandprint.turns import changed_course, changed_place, changed_rows, changed_work, undoing
from tests.samples import (FAR, FLIP2, MIXED_ROWS, Refusals, chances, mixed_course, mixed_work, odd_things,
                           small_work, some_course, some_rows, some_work)
from tests.test_rows import wrong_rows

MOST = 10 ** 12
ROWS = ("baa", "abab")


def changes_of(chance, work):
    """Changes of a work by chance, one of each sort that it has."""
    names = [band.called() for band in work.bands()]
    text = "".join(chance.sample(work.signs(), len(work.signs())))
    told = [("turn", chance.choice(names), chance.choice([0, 1, -1, 3, MOST, -MOST, MOST - 1])),
            ("mirror", chance.choice(names)), ("exchange", text), ("exchange", work.signs()),
            ("name", chance.choice(names), chance.choice(["new", "z", "abcdefgh"]))]
    if len(names) > 1:
        told.append(("swap", *chance.sample(names, 2)))
    return told


def exchanged(work, sign, change):
    """What a sign becomes."""
    return change[1][work.signs().index(sign)] if change[0] == "exchange" else sign


class ChangedWorks(unittest.TestCase):

    def test_turn(self):
        due = Work("ab", [Band("one", 3, pace=1), Band("two", 4, pace=-1)], [Press(("one", 2), ("two", 0), FLIP2)])
        for many in [2, -1, 5, -4, 2 + 3 * 10 ** 11, 2 - 3 * 10 ** 11]:
            self.assertEqual(changed_work(small_work(), ("turn", "one", many)), due)
            self.assertEqual(changed_rows(small_work(), ROWS, ("turn", "one", many)), ("aab", "abab"))
            self.assertEqual(changed_place(small_work(), ("one", 2), ("turn", "one", many)), ("one", 1))
            self.assertEqual(changed_place(small_work(), ("two", 2), ("turn", "one", many)), ("two", 2))
        due = Work("ab", [Band("one", 3, pace=1), Band("two", 4, pace=-1)], [Press(("one", 0), ("two", 3), FLIP2)])
        self.assertEqual(changed_work(small_work(), ("turn", "two", 3)), due)
        self.assertEqual(changed_rows(small_work(), ROWS, ("turn", "two", 3)), ("baa", "baba"))

    def test_turn_at_its_bounds(self):
        self.assertEqual((MOST % 3, -MOST % 3, MOST % 4), (1, 2, 0))
        self.assertEqual(changed_rows(small_work(), ROWS, ("turn", "one", MOST)), ("aba", "abab"))
        self.assertEqual(changed_rows(small_work(), ROWS, ("turn", "one", -MOST)), ("aab", "abab"))
        self.assertEqual(changed_place(small_work(), ("one", 0), ("turn", "one", MOST)), ("one", 1))
        self.assertEqual(changed_place(small_work(), ("one", 0), ("turn", "one", -MOST)), ("one", 2))
        self.assertEqual(changed_work(small_work(), ("turn", "one", 0)), small_work())

    def test_mirror(self):
        due = Work("ab", [Band("one", 3, pace=-1), Band("two", 4, pace=-1)], [Press(("one", 2), ("two", 0), FLIP2)])
        self.assertEqual(changed_work(small_work(), ("mirror", "one")), due)
        due = Work("ab", [Band("one", 3, pace=1), Band("two", 4, pace=1)], [Press(("one", 0), ("two", 3), FLIP2)])
        self.assertEqual(changed_work(small_work(), ("mirror", "two")), due)
        self.assertEqual(changed_rows(small_work(), ROWS, ("mirror", "one")), ("aab", "abab"))
        self.assertEqual(changed_rows(small_work(), ROWS, ("mirror", "two")), ("baa", "baba"))
        self.assertEqual(changed_place(small_work(), ("one", 0), ("mirror", "one")), ("one", 2))
        self.assertEqual(changed_place(small_work(), ("one", 1), ("mirror", "one")), ("one", 1))
        self.assertEqual(changed_place(small_work(), ("one", 0), ("mirror", "two")), ("one", 0))
        far = Work("ab", [Band("a", 5, pace=MOST), Band("b", 1, pace=0)])
        self.assertEqual([band.pace() for band in changed_work(far, ("mirror", "a")).bands()], [-MOST, 0])
        self.assertEqual(changed_work(far, ("mirror", "b")), far)

    def test_exchange(self):
        work = Work("abc", [Band("a", 3), Band("b", 2)],
                    [Press(("a", 0), ("b", 1), ("aab", "cba", "bbc"), rhythm="x-")])
        # a becomes b, b becomes c, c becomes a.
        due = Work("abc", [Band("a", 3), Band("b", 2)], [Press(("a", 0), ("b", 1), ("acc", "cbb", "bac"), rhythm="x-")])
        self.assertEqual(changed_work(work, ("exchange", "bca")), due)
        self.assertEqual(changed_work(work, ("exchange", "abc")), work)
        self.assertEqual(changed_rows(work, ("abc", "ca"), ("exchange", "bca")), ("bca", "ab"))
        self.assertEqual(changed_rows(work, ("abc", "ca"), ("exchange", "acb")), ("acb", "ba"))
        self.assertEqual(changed_rows(work, ("abc", "ca"), ("exchange", "abc")), ("abc", "ca"))
        self.assertEqual(changed_place(work, ("a", 2), ("exchange", "bca")), ("a", 2))

    def test_exchange_of_a_table_sign_by_sign(self):
        for chance in chances(30, 14):
            work = some_work(chance)
            text = "".join(chance.sample(work.signs(), len(work.signs())))
            signs = work.signs()
            told = changed_work(work, ("exchange", text))
            self.assertEqual((told.signs(), told.bands()), (signs, work.bands()))
            for elder, heir in zip(work.presses(), told.presses()):
                for above, texts in enumerate(elder.table()):
                    for below, sign in enumerate(texts):
                        made = heir.table()[signs.index(text[above])][signs.index(text[below])]
                        self.assertEqual(made, text[signs.index(sign)])

    def test_exchange_beside_a_band_of_that_name(self):
        work = Work("ab", [Band("ab", 3, pace=1), Band("ba", 2)], [Press(("ab", 1), ("ba", 1), ("ab", "bb"))])
        due = Work("ab", [Band("ab", 3, pace=1), Band("ba", 2)], [Press(("ab", 1), ("ba", 1), ("aa", "ab"))])
        self.assertEqual(changed_work(work, ("exchange", "ba")), due)
        self.assertEqual(changed_rows(work, ("aab", "ab"), ("exchange", "ba")), ("bba", "ba"))
        self.assertEqual(changed_place(work, ("ba", 1), ("exchange", "ba")), ("ba", 1))

    def test_name(self):
        due = Work("ab", [Band("one", 3, pace=1), Band("three", 4, pace=-1)], [Press(("one", 0), ("three", 0), FLIP2)])
        self.assertEqual(changed_work(small_work(), ("name", "two", "three")), due)
        self.assertEqual(changed_rows(small_work(), ROWS, ("name", "two", "three")), ROWS)
        self.assertEqual(changed_place(small_work(), ("two", 3), ("name", "two", "three")), ("three", 3))
        self.assertEqual(changed_place(small_work(), ("one", 2), ("name", "two", "three")), ("one", 2))
        self.assertEqual(changed_work(small_work(), ("name", "one", "abcdefgh")).bands()[0],
                         Band("abcdefgh", 3, pace=1))

    def test_swap(self):
        due = Work("ab", [Band("two", 4, pace=-1), Band("one", 3, pace=1)], [Press(("one", 0), ("two", 0), FLIP2)])
        for change in [("swap", "one", "two"), ("swap", "two", "one")]:
            self.assertEqual(changed_work(small_work(), change), due)
            self.assertEqual(changed_rows(small_work(), ROWS, change), ("abab", "baa"))
            self.assertEqual(changed_place(small_work(), ("one", 1), change), ("one", 1))
        work = mixed_work()
        told = changed_work(work, ("swap", "e", "c"))
        self.assertEqual([band.called() for band in told.bands()], ["ab", "e", "d", "c"])
        self.assertEqual(told.presses(), work.presses())
        self.assertEqual(changed_rows(work, ("abcab", "cba", "bbca", "c"), ("swap", "e", "c")),
                         ("abcab", "c", "bbca", "cba"))

    def test_presses_keep_their_order_and_rhythms(self):
        work = mixed_work()
        for change in [("turn", "ab", 2), ("mirror", "d"), ("exchange", "cab"), ("name", "c", "z"), ("swap", "d", "e")]:
            told = changed_work(work, change)
            self.assertEqual([press.rhythm() for press in told.presses()], [press.rhythm() for press in work.presses()])
            for elder, heir in zip(work.presses(), told.presses()):
                self.assertEqual(heir.above(), changed_place(work, elder.above(), change))
                self.assertEqual(heir.below(), changed_place(work, elder.below(), change))

    def test_courses(self):
        puts, lifts = [(3, ("one", 0), "a"), (2, ("two", 3), "b"), (2, ("one", 2), "b")], [(4, 0, "up"), (0, 0, "down")]
        course = Course(small_work(), puts=puts, lifts=lifts)

        def puts_of(change):
            told = changed_course(course, change)
            self.assertEqual(told.work(), changed_work(small_work(), change))
            self.assertEqual(told.lifts(), lifts)
            return told.puts()
        self.assertEqual(puts_of(("turn", "one", 1)),
                         [(3, ("one", 1), "a"), (2, ("two", 3), "b"), (2, ("one", 0), "b")])
        self.assertEqual(puts_of(("mirror", "two")), [(3, ("one", 0), "a"), (2, ("two", 0), "b"), (2, ("one", 2), "b")])
        self.assertEqual(puts_of(("exchange", "ba")),
                         [(3, ("one", 0), "b"), (2, ("two", 3), "a"), (2, ("one", 2), "a")])
        self.assertEqual(puts_of(("name", "one", "z")), [(3, ("z", 0), "a"), (2, ("two", 3), "b"), (2, ("z", 2), "b")])
        self.assertEqual(puts_of(("swap", "one", "two")), puts)
        self.assertEqual(course, Course(small_work(), puts=puts, lifts=lifts))

    def test_by_names(self):
        change = ("mirror", "one")
        self.assertEqual(changed_work(work=small_work(), change=change), changed_work(small_work(), change))
        self.assertEqual(changed_course(course=Course(small_work()), change=change),
                         changed_course(Course(small_work()), change))
        self.assertEqual(changed_rows(work=small_work(), rows=ROWS, change=change), ("aab", "abab"))
        self.assertEqual(changed_place(work=small_work(), place=("one", 0), change=change), ("one", 2))
        self.assertEqual(undoing(work=small_work(), change=change), change)


class ItRunsAsItDoes(unittest.TestCase):

    def test_each_beat_of_the_changed_is_the_beat_changed(self):
        for chance in chances(60, 15):
            course = some_course(chance, some_work(chance))
            work, rows = course.work(), some_rows(chance, course.work())
            for change in changes_of(chance, work):
                other = changed_course(course, change)
                for beat in range(14):
                    due = changed_rows(work, next_rows(course, rows, beat), change)
                    self.assertEqual(next_rows(other, changed_rows(work, rows, change), beat), due)

    def test_runs_rounds_and_wishes(self):
        for chance in chances(40, 16):
            course = some_course(chance, some_work(chance, presses=2), last=chance.choice([9, 3000]))
            work, rows = course.work(), some_rows(chance, course.work())
            wish = [(chance.choice(work.places()), chance.choice(work.signs()))]
            for change in changes_of(chance, work):
                other, others = changed_course(course, change), changed_rows(work, rows, change)
                other_wish = [(changed_place(work, place, change), exchanged(work, sign, change)) for place,
                              sign in wish]
                self.assertEqual(run(other, others, 20),
                                 [changed_rows(work, each, change) for each in run(course, rows, 20)])
                try:
                    far = behind(course, rows, FAR)
                except TooLong:
                    self.assertRaises(TooLong, behind, other, others, FAR)
                    continue
                self.assertEqual(behind(other, others, FAR), changed_rows(work, far, change))
                self.assertEqual(round_of(other, others), round_of(course, rows))
                self.assertEqual(first_seen(other, others, other_wish), first_seen(course, rows, wish))

    def test_what_stands_at_a_place_stands_at_the_changed_one(self):
        for chance in chances(40, 17):
            work = some_work(chance)
            rows = some_rows(chance, work)
            for change in changes_of(chance, work):
                other = changed_work(work, change)
                self.assertEqual(sorted(changed_place(work, place, change) for place in work.places()),
                                 sorted(other.places()))
                for place in work.places():
                    told = sign_at(other, changed_rows(work, rows, change), changed_place(work, place, change))
                    self.assertEqual(told, exchanged(work, sign_at(work, rows, place), change))

    def test_several_behind_one_another(self):
        course = mixed_course()
        rows = MIXED_ROWS
        other, others, undone = course, rows, []
        due = run(course, rows, 30)
        for change in [("turn", "ab", -7), ("name", "ab", "x"), ("mirror", "x"), ("swap", "x", "e"),
                       ("exchange", "cab"),
                       ("turn", "d", MOST), ("name", "d", "ab"), ("swap", "ab", "x"), ("exchange", "bac")]:
            undone.append(undoing(other.work(), change))
            due = [changed_rows(other.work(), each, change) for each in due]
            others, other = changed_rows(other.work(), others, change), changed_course(other, change)
        self.assertEqual(run(other, others, 30), due)
        for change in undone[::-1]:
            others, other = changed_rows(other.work(), others, change), changed_course(other, change)
        self.assertEqual((other, others), (course, rows))


class Undoing(unittest.TestCase):

    def test_each_sort(self):
        work = Work("abc", [Band("a", 2), Band("b", 3)])
        self.assertEqual(undoing(work, ("turn", "a", 5)), ("turn", "a", -5))
        self.assertEqual(undoing(work, ("turn", "a", -MOST)), ("turn", "a", MOST))
        self.assertEqual(undoing(work, ("turn", "b", 0)), ("turn", "b", 0))
        self.assertEqual(undoing(work, ("mirror", "b")), ("mirror", "b"))
        self.assertEqual(undoing(work, ("exchange", "bca")), ("exchange", "cab"))
        self.assertEqual(undoing(work, ("exchange", "bac")), ("exchange", "bac"))
        self.assertEqual(undoing(work, ("exchange", "abc")), ("exchange", "abc"))
        self.assertEqual(undoing(work, ("name", "a", "c")), ("name", "c", "a"))
        self.assertEqual(undoing(work, ("swap", "a", "b")), ("swap", "a", "b"))
        self.assertEqual(undoing(work, ("swap", "b", "a")), ("swap", "b", "a"))
        self.assertEqual(undoing(Work("acxz", [Band("a", 1)]), ("exchange", "czax")), ("exchange", "xazc"))

    def test_all_is_as_it_was(self):
        for chance in chances(60, 18):
            course = some_course(chance, some_work(chance))
            work, rows = course.work(), some_rows(chance, course.work())
            for change in changes_of(chance, work):
                other, back = changed_work(work, change), undoing(work, change)
                self.assertEqual(changed_work(other, back), work)
                self.assertEqual(changed_course(changed_course(course, change), back), course)
                self.assertEqual(changed_rows(other, changed_rows(work, rows, change), back), rows)
                for place in work.places():
                    self.assertEqual(changed_place(other, changed_place(work, place, change), back), place)


class RefusedChanges(Refusals):

    def each(self, change):
        """That all refuse a thing that is no change, ahead of all else."""
        self.refused(NoChange, {"change": change}, changed_work, small_work(), change)
        self.refused(NoChange, {"change": change}, changed_course, Course(small_work()), change)
        self.refused(NoChange, {"change": change}, undoing, small_work(), change)
        for rows in [ROWS, None, ("aba", "")]:
            self.refused(NoChange, {"change": change}, changed_rows, small_work(), rows, change)
        for place in [("one", 0), ("one", 3), None]:
            self.refused(NoChange, {"change": change}, changed_place, small_work(), place, change)

    def test_of_anything(self):
        for change in odd_things() + [0, "turn", "mirror", ("turn",), ("mirror",), ("swap",), ("exchange",),
                                      ("name",), Course]:
            self.each(change)

    def test_words_and_parts(self):
        for change in [("Turn", "one", 1), ("turns", "one", 1), ("", "one", 1), (None, "one", 1), (1, "one", 1),
                       (True, "one"), (["mirror"], "one"), (("mirror",), "one"), ({}, "one"), ("turn", "one"),
                       ("turn", "one", 1, 1), ("mirror", "one", 0), ("mirror", "one", "two"), ("mirror",),
                       ("exchange", "ab", "ba"), ("exchange",), ("name", "one"), ("name", "one", "three", "four"),
                       ("swap", "one"), ("swap", "one", "two", "one"), ("change", "ab"), ("one", "mirror"),
                       (small_work(), "one"), ("unturn", "one", 1), ("exchange", "one", 1)]:
            self.each(change)

    def test_lists_for_tuples(self):
        for change in [["turn", "one", 1], ["mirror", "one"], ["exchange", "ba"], ["name", "one", "z"],
                       ["swap", "one", "two"], {"mirror": "one"}, ("exchange", ["b", "a"]), ("exchange", ("b", "a")),
                       ("mirror", ["one"]), ("mirror", ("one",)), (("mirror", "one"),)]:
            self.each(change)

    def test_turns(self):
        for many in odd_things() + [MOST + 1, -MOST - 1, FAR, 1.0, "1", (1,), [1]]:
            self.each(("turn", "one", many))
        for name in odd_things() + ["three", "One", "on", 0, ("one", 0)]:
            self.each(("turn", name, 1))

    def test_mirrors(self):
        for name in odd_things() + ["three", "One", "on", 0, ("one", 0)]:
            self.each(("mirror", name))

    def test_exchanges(self):
        for text in odd_things() + ["a", "b", "aa", "bb", "abc", "ac", "AB", "ab ", "aab", "abb", "abab", "one", 0,
                                    "cd"]:
            self.each(("exchange", text))

    def test_names(self):
        for name in odd_things() + ["three", "One", 0, ("one", 0)]:
            self.each(("name", name, "z"))
        for name in odd_things() + ["one", "two", "abcdefghi", "Z", "z1", 0, ("z",)]:
            self.each(("name", "one", name))

    def test_swaps(self):
        self.each(("swap", "one", "one"))
        for name in odd_things() + ["three", "One", 0, ("one", 0)]:
            self.each(("swap", name, "one"))
            self.each(("swap", "one", name))

    def test_places_and_rows_behind_changes(self):
        for change in [("turn", "one", 1), ("mirror", "one"), ("exchange", "ba"), ("name", "one", "z"),
                       ("swap", "one", "two")]:
            for place in odd_things() + [("one", 3), ("three", 0), ("z", 0), ["one", 0], ("one", True), 0]:
                self.refused(NoPlace, {"place": place}, changed_place, small_work(), place, change)
            for rows, number in wrong_rows():
                self.refused(NoRows, {"number": number}, changed_rows, small_work(), rows, change)


if __name__ == "__main__":
    unittest.main()
