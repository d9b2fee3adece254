"""What is promised of the whole program: its parts, done together in any order, tell the same."""

import unittest

from bandprint.alike import alike
from bandprint.bands import Work
from bandprint.beats import next_rows, run
from bandprint.blame import blame
from bandprint.boxes import boxes, first_rows, has, how_many
from bandprint.classes import classes, for_ever
from bandprint.courses import Course
from bandprint.desk import Desk
from bandprint.elders import elders
from bandprint.errors import NoWork, TooLong, TooMany
from bandprint.firsts import first_seen, told_apart
from bandprint.hall import Hall
from bandprint.halltexts import read_hall, show_hall
from bandprint.joins import apart, beside, wound
from bandprint.lossless import back
from bandprint.matters import matters
from bandprint.meets import meeting
from bandprint.needs import asked
from bandprint.plain import plain
from bandprint.puts import fewest_puts, wish_sightings
from bandprint.rounds import behind
from bandprint.signs import DEEPEST
from bandprint.texts import read_course, read_rows, read_work, show_course, show_rows, show_work
from bandprint.trees import tree_of
from bandprint.turns import changed_course, changed_rows, changed_work, undoing
from bandprint.whys import why
from tests import test_hall
from tests.samples import (FAR, Refusals, chances, one_marked, slow_run, some_course, some_rows, some_work, wheels)
from tests.slowcases import place_sign, sightings_of
from tests.test_desk import said, text_of
from tests.test_hall import all_of, hall_of
from tests.test_joins import named
from tests.test_lossless import one_to_one_work
from tests.test_rounds import LONG


def some_change(chance, work):
    """A change of a work by chance."""
    name = chance.choice(work.bands()).called()
    other = chance.choice(work.bands()).called()
    changes = [("turn", name, chance.choice([1, -3, 10 ** 12])), ("mirror", name), ("name", name, "new"),
               ("exchange", "".join(chance.sample(work.signs(), len(work.signs()))))]
    if other != name:
        changes.append(("swap", name, other))
    if name == "new":
        changes[2] = ("name", name, "newer")
    return chance.choice([each for each in changes if each[0] != "name"
                          or each[2] not in [band.called() for band in work.bands()]])


class Cut(Refusals):

    def test_a_course_cut_anywhere_runs_on_alike(self):
        for chance in chances(60, 321):
            work = some_work(chance, presses=8)
            begin = chance.choice([0, 4, FAR // 10])
            course = some_course(chance, work, first=begin, last=begin + 12)
            rows = some_rows(chance, work)
            whole = slow_run(course, rows, 20, begin)
            cut = chance.randint(0, 20)
            at = behind(course, rows, cut, begin=begin)
            self.assertEqual(at, whole[cut])
            self.assertEqual(run(course, at, 20 - cut, begin=begin + cut), whole[cut:])
            self.assertEqual(behind(course, at, 20 - cut, begin=begin + cut), whole[20])
            if cut < 20:
                self.assertEqual(next_rows(course, at, begin + cut), whole[cut + 1])

    def test_far(self):
        for chance in chances(30, 322):
            work = some_work(chance, longs=(1, 2, 3, 4), presses=3)
            course, rows = some_course(chance, work, last=2000), some_rows(chance, work)
            one, other = chance.randint(0, 4000), chance.choice([10, 5000, FAR // 10])
            try:
                whole = behind(course, rows, one + other)
                part = behind(course, rows, one)
            except TooLong:
                continue
            self.assertEqual(behind(course, part, other, begin=one), whole)

    def test_a_run_cut_in_parts_is_refused_the_same(self):
        rows = one_marked(wheels(LONG))
        start = [("work", "w", wheels(LONG)), ("stand", "s", "w", 3, rows)]
        for parts in [[1001], [1000, 1], [1, 1000], [500, 400, 101], [0, 1001], [1000, 0, 1], [333] * 3 + [2]]:
            hall = hall_of(*start)
            for beats in parts[:-1]:
                hall.do(("run", "s", beats))
            before = all_of(hall)
            self.refused(TooLong, {"beats": 1001}, hall.do, ("run", "s", parts[-1]))
            self.refused(TooLong, {"beats": 1001}, hall_of(*start).several, [("run", "s", beats) for beats in parts])
            self.assertEqual(all_of(hall), before)
        for parts in [[1000], [999, 1], [500, 500], [0, 1000, 0]]:
            self.assertEqual(hall_of(*start, *[("run", "s", beats) for beats in parts]),
                             hall_of(*start, ("run", "s", 1000)))


class RunsAsAhead(Refusals):

    def test_changed_and_undone(self):
        for chance in chances(80, 323):
            course = some_course(chance, some_work(chance, presses=6))
            rows = some_rows(chance, course.work())
            told, way = slow_run(course, rows, 10), []
            now, stands = course, told
            for _ in range(chance.randint(1, 4)):
                change = some_change(chance, now.work())
                way.append((now.work(), change))
                stands = [changed_rows(now.work(), each, change) for each in stands]
                now = changed_course(now, change)
                self.assertEqual(run(now, stands[0], 10), stands)
            for work, change in way[::-1]:
                undo = undoing(work, change)
                stands = [changed_rows(now.work(), each, undo) for each in stands]
                now = changed_course(now, undo)
                self.assertEqual(run(now, stands[0], 10), stands)
            self.assertEqual((now, stands), (course, told))

    def test_plain_beside_apart_wound_and_read_back(self):
        for chance in chances(60, 324):
            signs = chance.choice(["ab", "abc"])
            work = some_work(chance, signs=(signs,), longs=(1, 2, 3), presses=3)
            other = named(some_work(chance, signs=(signs,), longs=(1, 2, 3), presses=2), "xyz")
            rows, others = some_rows(chance, work), some_rows(chance, other)
            due = [one + there for one, there in zip(slow_run(Course(work), rows, 12),
                                                     slow_run(Course(other), others, 12))]
            course = Course(beside(plain(work)[0], other))
            course = read_course(show_course(course))
            begin = read_rows(course.work(), show_rows(course.work(), rows + others))
            self.assertEqual(run(course, begin, 12), due)
            for bands, _, part in apart(course):
                texts = [tuple(each[number] for number in bands) for each in due]
                part = Course(read_work(show_work(plain(part.work())[0])))
                self.assertEqual(run(part, texts[0], 12), texts)
                name, long = part.work().bands()[0].called(), part.work().bands()[0].long()
                try:
                    wide = wound(part.work(), name, 12 // long)
                except NoWork:
                    continue
                texts = [(each[0] * (12 // long), *each[1:]) for each in texts]
                self.assertEqual(run(Course(wide), texts[0], 12), texts)

    def test_small_works_for_ever(self):
        for chance in chances(40, 325):
            work = some_work(chance, longs=(1, 2), presses=4, signs=("ab",))
            if 2 ** len(work) * work.common() > 500:
                continue
            other = plain(work)[0]
            self.assertEqual(for_ever(work, other, work.places()), ("alike",))
            self.assertEqual(alike(Course(work), Course(other), work.places(), 5)[0], "alike")
            change = some_change(chance, work)
            again = changed_work(changed_work(work, change), undoing(work, change))
            self.assertEqual(for_ever(again, work, work.places()), ("alike",))
            self.assertEqual(len([rows for each in classes(work, []) for rows in each]), 2 ** len(work))


class LedBack(Refusals):

    def test_what_was_seen_leads_back_to_the_beginning(self):
        for chance in chances(60, 326):
            work = some_work(chance, longs=(1, 2, 3), presses=5)
            begin = chance.choice([0, 3])
            course = some_course(chance, work, first=begin, last=begin + 6)
            rows = some_rows(chance, work)
            stands = slow_run(course, rows, 8, begin)
            seen = []
            for _ in range(chance.randint(0, 6)):
                beat, place = chance.randint(0, 8), chance.choice(work.places())
                seen.append((begin + beat, place, place_sign(work, stands[beat], place)))
            try:
                found = boxes(work, tree_of(course, seen, begin=begin))
                self.assertIsNone(blame(course, seen, begin=begin))
            except TooMany:
                continue
            self.assertTrue(has(work, found, rows))
            first = first_rows(work, found)
            told = slow_run(course, first, 8, begin)
            self.assertTrue(all(place_sign(work, told[beat - begin], place) == sign for beat, place, sign in seen))
            needed = asked(course, seen, begin=begin)
            self.assertGreaterEqual(how_many(found), len(work.signs()) ** (len(work) - len(needed)))

    def test_elders_and_back(self):
        for chance in chances(40, 327):
            work = one_to_one_work(chance, longs=(1, 2, 3))
            rows, beats = some_rows(chance, work), chance.randint(0, 4)
            try:
                found = elders(work, rows, 7, beats=beats)
            except TooMany:
                continue
            # Of a lossless work there is one elder alone.
            self.assertEqual(how_many(found), 1)
            self.assertTrue(has(work, found, back(work, rows, beats, begin=7)))

    def test_first_fewest_and_meeting(self):
        for chance in chances(60, 328):
            work = some_work(chance, longs=(1, 2, 3), presses=4)
            rows = some_rows(chance, work)
            wish = [(chance.choice(work.places()), chance.choice(work.signs())) for _ in range(chance.randint(1, 2))]
            told = first_seen(Course(work), rows, wish)
            self.assertEqual(meeting([(work, rows, 0, wish)])[0], told[0])
            if told[0] == "never" or told[1] > DEEPEST:
                continue
            self.assertEqual(meeting([(work, rows, 0, wish)])[1], told[1])
            try:
                # Where it stands by itself nothing has to be laid otherwise; a beat ahead something has.
                self.assertEqual(fewest_puts(Course(work), rows, wish, told[1])[1], 0)
                if told[1] > 0:
                    paper = fewest_puts(Course(work), rows, wish, told[1] - 1)
                    self.assertTrue(paper[0] == "never" or paper[1] > 0)
            except TooMany:
                continue
            for beat, place, sign in wish_sightings(wish, told[1]):
                self.assertEqual(why(Course(work), rows, place, beat)[2], sign)

    def test_places_that_matter_tell_rows_apart(self):
        for chance in chances(40, 329):
            work = some_work(chance, longs=(1, 2), presses=4)
            course = some_course(chance, work, last=4)
            place, look = chance.choice(work.places()), (chance.randint(0, 4), chance.choice(work.places()))
            try:
                told = matters(course, place, look)
            except TooMany:
                continue
            if told[0] == "yes":
                word, beats = told_apart(course, told[1], told[2], [look[1]])
                self.assertEqual(word, "at")
                self.assertLessEqual(beats, look[0])


class HallsDesksAndTexts(Refusals):

    def test_in_whatever_order(self):
        asked_of = test_hall.ByChance()
        for chance in chances(25, 330):
            work = some_work(chance, longs=(1, 2, 3), presses=3, signs=("ab", "abc"))
            works = [work, plain(work)[0], Work(work.signs(), work.bands(), work.presses()[:1])]
            start = [("work", "w", work), ("stand", "s", "w", chance.choice([0, 2]), some_rows(chance, work))]
            hall, desk = hall_of(*start), Desk()
            desk.say(text_of(start[0]))
            desk.say(f"stand s w {start[1][3]}\n" + show_rows(work, start[1][4]))
            for _ in range(50):
                how = chance.random()
                if how < 0.1:
                    self.assertEqual(desk.say("undo"), "ok" if hall.undo() else "none")
                elif how < 0.15:
                    self.assertEqual(desk.say("redo"), "ok" if hall.redo() else "none")
                else:
                    deed = asked_of.some_deed(chance, works)
                    if deed[0] == "stand":
                        continue
                    try:
                        told = hall.do(deed)
                    except (ArithmeticError, KeyError, LookupError, RuntimeError) as refusal:
                        self.assertEqual(said(desk, text_of(deed))[0], type(refusal))
                    else:
                        self.assertEqual(desk.say(text_of(deed)), told or "ok")
                self.looked_at(hall)
            other = read_hall(show_hall(hall))
            self.assertEqual(other, hall)
            self.looked_at(other)
            while hall.undo():
                self.looked_at(hall)
            self.assertEqual(hall, Hall())

    def looked_at(self, hall):
        """That each stand's beginning lies in a box of what was told by looks, and that it has run to where it is."""
        for name in hall.names():
            if hall.sort_of(name) == "work":
                continue
            _, begin, beat = hall.stand(name)
            self.assertEqual(hall.rows(name),
                             behind(hall.course(name), hall.beginning(name), beat - begin, begin=begin))
            try:
                self.assertIs(hall.may_be(name, hall.beginning(name)), True)
                self.assertGreater(hall.how_many(name), 0)
            except TooMany:
                continue
            for place, sign in hall.sure(name):
                self.assertEqual(place_sign(hall.course(name).work(), hall.beginning(name), place), sign)

    def test_changes_that_show_the_same_are_never_refused(self):
        for chance in chances(20, 331):
            work = some_work(chance, longs=(1, 2, 3), presses=5)
            hall = hall_of(("work", "w", work), ("stand", "s", "w", 2, some_rows(chance, work)))
            for _ in range(12):
                hall.do(chance.choice([("run", "s", chance.randint(0, 4)), ("look", "s", chance.choice(work.places())),
                                       ("put", "s", chance.choice(work.places()), chance.choice(work.signs()))]))
            looks = hall.looks("s")
            hall.do(("change", "w", plain(work)[0]))
            self.assertEqual(hall.looks("s"), looks)
            self.assertTrue(hall.may_be("s", hall.beginning("s")))
            self.assertEqual(read_hall(show_hall(hall)), hall)

    def test_sightings_of_a_hall_are_those_of_its_course(self):
        for chance in chances(20, 332):
            work = some_work(chance, longs=(1, 2), presses=4)
            rows = some_rows(chance, work)
            seen = sorted(sightings_of(chance, Course(work), 4, last=6, rows=rows), key=lambda each: each[0])
            hall, beat = hall_of(("work", "w", work), ("stand", "s", "w", 0, rows)), 0
            for at, place, _ in seen:
                hall.do(("run", "s", at - beat))
                hall.do(("look", "s", place))
                beat = at
            told = [(at, place, place_sign(work, slow_run(Course(work), rows, at)[-1], place)) for at, place, _ in seen]
            self.assertEqual(hall.looks("s"), told)
            self.assertEqual(hall.tree("s"), tree_of(Course(work), told))


if __name__ == "__main__":
    unittest.main()
