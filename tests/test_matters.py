"""Whether a place of the beginning matters to a look, and looks at such answers."""

import unittest

from bandprint.bands import Band, Press, Work
from bandprint.courses import Course
from bandprint.errors import NoLook, NoPlace, TooMany
from bandprint.matters import matters, shows_matters
from bandprint.needs import asked
from bandprint.shown import shown
from bandprint.signs import DEEPEST
from tests.samples import (FAR, KEEP2, Refusals, chances, odd_things, small_work, some_course, some_rows, some_work)
from tests.slowcases import all_rows, end_of_look, place_sign, slow_cases, slow_grown
from tests.test_shown import many_reads, seen_at
from tests.test_treelooks import partings, renumbered

A, B = ("a", 0), ("b", 0)
COPY2 = ("aa", "bb")


def unlike_at(work, one, other):
    """The places at which rows are unlike."""
    return [place for place in work.places() if place_sign(work, one, place) != place_sign(work, other, place)]


def slow_matters(course, look, begin=0):
    """The places that matter, by all pairs of beginnings that are alike but at one place."""
    work = course.work()
    signs = {rows: seen_at(course, rows, look, begin) for rows in all_rows(work)}
    found = set()
    for rows in signs:
        for number, place in enumerate(work.places()):
            for sign in work.signs():
                text = "".join(rows)
                text = text[:number] + sign + text[number + 1:]
                start, told = 0, []
                for band in work.bands():
                    told.append(text[start:start + band.long()])
                    start += band.long()
                if signs[tuple(told)] != signs[rows]:
                    found.add(place)
    return found


def some_look(chance, work, begin):
    """A look by chance."""
    return (begin + chance.choice([0, 1, 2, 4, 6]), chance.choice(work.places()))


class Matters(Refusals):

    def test_by_hand(self):
        course = Course(small_work())
        look = (1, ("two", 0))
        for place in [("one", 2), ("two", 1)]:
            word, one, other = matters(course, place, look)
            self.assertEqual((word, unlike_at(small_work(), one, other)), ("yes", [place]))
            self.assertNotEqual(seen_at(course, one, look), seen_at(course, other, look))
        for place in [("one", 0), ("one", 1), ("two", 0), ("two", 2), ("two", 3)]:
            self.assertEqual(matters(course, place, look), ("no", shown(course, look)))
        self.assertEqual(matters(course=course, place=("two", 0), look=(7, ("two", 0)), begin=7)[0], "yes")
        self.assertRaises(TypeError, matters, course, ("two", 0), (7, ("two", 0)), 7)

    def test_asked_places_that_do_not_matter(self):
        # What is read copies itself, or turns whatever it finds to one sign.
        for table in [KEEP2, ("aa", "aa")]:
            course = Course(Work("ab", [Band("a", 1), Band("b", 1)], [Press(A, B, table)]))
            self.assertEqual(asked(course, [(1, B, "a")]), [A, B])
            self.assertEqual(matters(course, A, (1, B)), ("no", shown(course, (1, B))))
        self.assertEqual(matters(course, B, (1, B)), ("no", shown(course, (1, B))))
        copying = Course(Work("ab", [Band("a", 1), Band("b", 1)], [Press(A, B, COPY2)]))
        self.assertEqual((matters(copying, A, (1, B))[0], matters(copying, B, (1, B))[0]), ("yes", "no"))

    def test_places_that_are_not_asked(self):
        for chance in chances(20, 291):
            work = some_work(chance, longs=(1, 2, 3))
            course, look = some_course(chance, work), some_look(chance, work, 0)
            needed = asked(course, [(*look, work.signs()[0])])
            for place in work.places():
                if place not in needed:
                    self.assertEqual(matters(course, place, look), ("no", shown(course, look)))

    def test_beside_all_beginnings(self):
        words = []
        for chance in chances(60, 292):
            work = some_work(chance, longs=(1, 2), presses=5, signs=("ab", "abc"))
            if len(work.signs()) ** len(work) > 300:
                continue
            begin = chance.choice([0, 2, FAR // 10])
            course = some_course(chance, work, first=begin, last=begin + 6)
            look = some_look(chance, work, begin)
            due = slow_matters(course, look, begin)
            for place in work.places():
                told = matters(course, place, look, begin=begin)
                words.append(told[0])
                if place in due:
                    self.assertEqual(told[0], "yes")
                    self.assertEqual(unlike_at(work, *told[1:]), [place])
                    self.assertNotEqual(seen_at(course, told[1], look, begin), seen_at(course, told[2], look, begin))
                else:
                    self.assertEqual(told, ("no", shown(course, look, begin=begin)))
                self.assertTrue(shows_matters(course, place, look, told, begin=begin))
        self.assertGreater(min(words.count("yes"), words.count("no")), 30)

    def test_refused(self):
        course, look = many_reads(4)
        for place in odd_things() + [("e", 1), ("six", 0), ["e", 0], ("e", False)]:
            self.refused(NoPlace, {"place": place}, matters, course, place, None)
            self.refused(NoPlace, {"place": place}, matters, course, place, look)
        for wrong in odd_things() + [(61, ("e", 0)), (-1, ("e", 0)), (2, ("e", 1)), [2, ("e", 0)], (True, ("e", 0))]:
            self.refused(NoLook, {"look": wrong}, matters, course, ("a", 0), wrong)
        for place in [("a", 0), ("e", 0), ("d", 0)]:
            # Of yes too, by the look's tree.
            self.refused(TooMany, {"many": 200}, matters, course, place, look)
        few, look = many_reads(3)
        self.assertEqual(matters(few, ("a", 0), look)[0], "yes")


class LooksAtMatters(Refusals):

    COURSE, LOOK = Course(small_work()), (1, ("two", 0))
    YES = ("yes", ("aaa", "abaa"), ("aab", "abaa"))

    def lets(self, due, *things, place=("one", 2), look=LOOK, course=COURSE, begin=0):
        """What the look says of things."""
        for thing in things:
            self.assertIs(shows_matters(course, place, look, thing, begin=begin), due, thing)

    def test_anything(self):
        no = ("no", shown(self.COURSE, self.LOOK))
        self.lets(True, self.YES)
        self.lets(False, *odd_things(), list(self.YES), self.YES[:2], (*self.YES, None), ("no", *self.YES[1:]),
                  ("Yes", *self.YES[1:]), (True, *self.YES[1:]), ("yes",), ("no",), (), self.YES[1], no,
                  ("yes", no[1]), ("maybe", no[1]))
        self.lets(True, no, place=("one", 0))
        self.lets(False, list(no), ("no", tuple(no[1])), (*no, no[1]), (*no, None, None),
                  (*no, *self.YES[1:]), no[1], ("yes", no[1]), ("no", None), ("no", []),
                  *[("no", thing) for thing in odd_things()], place=("one", 0))

    def test_rows(self):
        _, one, other = self.YES
        self.lets(True, ("yes", other, one), ("yes", ("bba", "bbbb"), ("bbb", "bbbb")))
        self.lets(False, ("yes", one, one), ("yes", ("aaa", "abaa"), ("aab", "abab")),
                  ("yes", ("aaa", "abaa"), ("aaa", "aaaa")), ("yes", ("aba", "abaa"), ("aab", "abaa")))
        # Alike but at the place, but they show the same there.
        self.lets(False, ("yes", ("aaa", "abaa"), ("baa", "abaa")), place=("one", 0))
        self.lets(False, self.YES, place=("two", 1))
        for wrong in odd_things() + [list(one), ("aaa", "abac"), ("aaa",), ("aaa", "abaa", "a"), "aaaabaa"]:
            self.lets(False, ("yes", one, wrong), ("yes", wrong, other), ("yes", wrong, wrong))

    def test_trees(self):
        for chance in chances(60, 293):
            work = some_work(chance, longs=(1, 2), presses=4, signs=("ab", "abc"))
            course, begin = some_course(chance, work, last=4), chance.choice([0, 2])
            look, left = (begin + chance.randint(0, 4), chance.choice(work.places())), [chance.randint(0, 3)]

            def end_of_box(box):
                places = [place for place in work.places() if len(box[place]) > 1]
                if left[0] > 0 and places:
                    left[0] -= 1
                    place = chance.choice(places)
                    return ("split", place, partings(box[place], chance))
                return slow_cases(course, [look], begin, box, end_of_look(look))
            try:
                nodes = renumbered(chance, slow_grown(work, end_of_box))
            except TooMany:
                continue
            for spot in work.places():
                due = matters(course, spot, look, begin=begin)[0] == "no"
                self.lets(due, ("no", nodes), place=spot, look=look, course=course, begin=begin)
            at = chance.choice([at for at, node in enumerate(nodes) if node[0] == "shows"])
            others = [sign for sign in work.signs() if ("shows", sign) != nodes[at]]
            bent = nodes[:at] + [("shows", chance.choice(others))] + nodes[at + 1:]
            self.lets(False, ("no", bent), ("no", nodes[:-1]), ("no", nodes + [("shows", "a")]), place=spot, look=look,
                      course=course, begin=begin)

    def test_trees_whose_leaves_tell_two_apart(self):
        tree = shown(self.COURSE, self.LOOK)
        self.lets(False, ("no", tree))
        self.lets(False, ("no", tree), place=("two", 1))
        self.lets(True, ("no", tree), place=("two", 0))
        # A split of another place ahead, whose parts have leaves of both signs.
        split = [("split", ("two", 0), (("a", 1), ("b", 8)))]
        for start in (1, 8):
            split += [("split", node[1], tuple((signs, child + start) for signs, child in node[2]))
                      if node[0] == "split" else node for node in tree]
        self.lets(True, ("no", split), place=("two", 0))
        self.lets(True, ("no", split), place=("one", 0))
        self.lets(False, ("no", split), place=("one", 2))

    def test_more_than_most_leaves(self):
        course, look = many_reads(4)
        work = course.work()
        tree = big_tree(course, look)
        self.assertGreater(len([node for node in tree if node[0] == "shows"]), 200)
        self.lets(True, ("no", tree), place=("e", 0), look=look, course=course)
        self.lets(False, ("no", tree), place=("a", 0), look=look, course=course)
        rows = some_rows(chances(1, 294)[0], work)
        self.lets(False, ("yes", rows, rows), place=("e", 0), look=look, course=course)
        self.lets(True, ("yes", ("a",) * 6, ("b", *["a"] * 5)), place=("a", 0), look=look, course=course)

    def test_refused_ahead_of_the_thing(self):
        for thing in [None, self.YES]:
            self.refused(NoPlace, {"place": ("one", 3)}, shows_matters, self.COURSE, ("one", 3), None, thing)
            self.refused(NoPlace, {"place": ["one", 0]}, shows_matters, self.COURSE, ["one", 0], self.LOOK, thing)
            self.refused(NoLook, {"look": (DEEPEST + 1, ("one", 0))}, shows_matters, self.COURSE, ("one", 0),
                         (DEEPEST + 1, ("one", 0)), thing)
            self.refused(NoLook, {"look": None}, shows_matters, self.COURSE, ("one", 0), None, thing)

    def test_by_places_and_by_names(self):
        thing = ("no", shown(self.COURSE, self.LOOK))
        kept = list(thing[1])
        self.assertTrue(shows_matters(course=self.COURSE, place=("one", 0), look=self.LOOK, thing=thing, begin=0))
        self.assertRaises(TypeError, shows_matters, self.COURSE, ("one", 0), self.LOOK, thing, 0)
        self.assertEqual(thing[1], kept)
        matters(self.COURSE, ("one", 0), self.LOOK)[1].clear()
        self.assertEqual(matters(self.COURSE, ("one", 0), self.LOOK), thing)


def big_tree(course, look):
    """The tree of a look, box by box, however many leaves it has."""
    work, nodes = course.work(), []

    def visit(box):
        number = len(nodes)
        nodes.append(None)
        end = slow_cases(course, [look], 0, box, end_of_look(look))
        if end[0] == "split":
            end = ("split", end[1], tuple((signs, visit({**box, end[1]: signs})) for signs in end[2]))
        nodes[number] = end
        return number

    visit({place: work.signs() for place in work.places()})
    return nodes


if __name__ == "__main__":
    unittest.main()
