"""The hall: deeds, their refusals, several at once, undone and done once more, and what is told of it."""

import unittest

from bandprint.bands import Band, Press, Work
from bandprint.boxes import boxes, how_many, sure
from bandprint.courses import Course
from bandprint.errors import Full, Needed, NoDeed, NoName, Seen, Taken, TooLong, TooMany, Unfit
from bandprint.hall import Hall
from bandprint.rounds import behind
from bandprint.signs import DEEPEST
from bandprint.trees import tree_of
from tests.samples import (FAR, FLIP2, KEEP2, Refusals, chances, mixed_work, odd_things, one_marked, small_work,
                           some_rows,
                           some_work, wheels)
from tests.slowcases import all_rows, in_box, place_sign, shows, slow_run
from tests.test_firsts import LONG
from tests.test_shown import many_reads

ROWS = ("aba", "abba")
SPOT, TOP = ("two", 1), ("one", 0)


def hall_of(*deeds):
    """A hall in which these deeds are done."""
    hall = Hall()
    for deed in deeds:
        hall.do(deed)
    return hall


def small_hall(*deeds):
    """A hall with the small work, "w", a stand of it from 5 on, "s", in which these deeds are done."""
    return hall_of(("work", "w", small_work()), ("stand", "s", "w", 5, ROWS), *deeds)


def with_table(table, rhythm="x"):
    """The small work with another table and rhythm."""
    press = small_work().presses()[0]
    return Work("ab", small_work().bands(), [Press(press.above(), press.below(), table, rhythm=rhythm)])


def faster_one():
    """The small work without its press, its first band twice as fast."""
    return Work("ab", [Band("one", 3, pace=2), Band("two", 4, pace=-1)])


def all_of(hall):
    """All that a hall tells, trees aside."""
    told = []
    for name in hall.names():
        if hall.sort_of(name) == "work":
            told.append((name, hall.work(name)))
        else:
            told.append((name, hall.stand(name), hall.beginning(name), hall.rows(name), hall.course(name),
                         hall.looks(name)))
    return told


def kinds(things):
    """Things with their texts: True isn't 1."""
    return [(thing, repr(thing)) for thing in things]


class Deeds(Refusals):

    def test_a_work(self):
        hall = Hall()
        self.assertIsNone(hall.do(("work", "w", small_work())))
        self.assertEqual((hall.names(), hall.sort_of("w"), hall.work("w")), (["w"], "work", small_work()))

    def test_a_stand(self):
        hall = hall_of(("work", "w", small_work()))
        self.assertIsNone(hall.do(deed=("stand", "s", "w", 5, ROWS)))
        self.assertEqual((hall.names(), hall.sort_of("s")), (["s", "w"], "stand"))
        self.assertEqual(hall.stand("s"), ("w", 5, 5))
        self.assertEqual((hall.beginning("s"), hall.rows("s"), hall.looks("s")), (ROWS, ROWS, []))
        self.assertEqual(hall.course("s"), Course(small_work()))
        self.assertEqual(hall.tree("s"), [("fits",)])

    def test_runs(self):
        hall = small_hall()
        due = slow_run(Course(small_work()), ROWS, 12, 5)
        for beats, behind_all in [(0, 0), (1, 1), (3, 4), (0, 4), (8, 12)]:
            self.assertIsNone(hall.do(("run", "s", beats)))
            self.assertEqual((hall.stand("s"), hall.rows("s")), (("w", 5, 5 + behind_all), due[behind_all]))
        self.assertEqual(hall.beginning("s"), ROWS)

    def test_puts_and_lifts(self):
        hall = small_hall(("put", "s", SPOT, "a"), ("lift", "s", 0, "up"))
        self.assertEqual(hall.course("s"), Course(small_work(), puts=[(6, SPOT, "a")], lifts=[(5, 0, "up")]))
        # Neither does anything to what is seen now.
        self.assertEqual((hall.rows("s"), hall.do(("look", "s", SPOT))), (ROWS, "b"))
        hall.do(("run", "s", 2))
        self.assertIsNone(hall.do(("put", "s", TOP, "b")))
        self.assertIsNone(hall.do(("lift", "s", 0, "down")))
        course = Course(small_work(), puts=[(6, SPOT, "a"), (8, TOP, "b")], lifts=[(5, 0, "up"), (7, 0, "down")])
        self.assertEqual(hall.course("s"), course)
        hall.do(("run", "s", 5))
        self.assertEqual(hall.rows("s"), slow_run(course, ROWS, 7, 5)[-1])

    def test_looks(self):
        hall = small_hall()
        self.assertEqual(hall.do(("look", "s", SPOT)), "b")
        hall.do(("run", "s", 3))
        rows = hall.rows("s")
        told = [hall.do(("look", "s", place)) for place in [TOP, SPOT, TOP]]
        self.assertEqual(told, [place_sign(small_work(), rows, place) for place in [TOP, SPOT, TOP]])
        self.assertEqual(hall.looks("s"), [(5, SPOT, "b"), (8, TOP, told[0]), (8, SPOT, told[1]), (8, TOP, told[2])])

    def test_a_twin(self):
        hall = small_hall(("put", "s", SPOT, "a"), ("run", "s", 3), ("look", "s", TOP))
        self.assertIsNone(hall.do(("twin", "s", "t")))
        for told in [hall.stand, hall.beginning, hall.rows, hall.course, hall.looks, hall.tree]:
            self.assertEqual(told("t"), told("s"))
        hall.do(("run", "t", 2))
        hall.do(("look", "t", SPOT))
        self.assertEqual((hall.stand("s"), hall.stand("t")), (("w", 5, 8), ("w", 5, 10)))
        self.assertEqual((len(hall.looks("s")), len(hall.looks("t"))), (1, 2))

    def test_a_drop(self):
        hall = small_hall(("work", "v", mixed_work()))
        self.assertIsNone(hall.do(("drop", "v")))
        self.assertEqual(hall.names(), ["s", "w"])
        self.assertIsNone(hall.do(("drop", "s")))
        self.assertEqual(hall.names(), ["w"])
        hall.do(("drop", "w"))
        self.assertEqual((hall.names(), len(hall)), ([], 0))
        hall.do(("work", "s", mixed_work()))
        self.assertEqual(hall.sort_of("s"), "work")

    def test_a_change(self):
        hall = small_hall(("run", "s", 4))
        self.assertIsNone(hall.do(("change", "w", with_table(KEEP2))))
        self.assertEqual(hall.work("w"), with_table(KEEP2))
        self.assertEqual(hall.rows("s"), slow_run(Course(with_table(KEEP2)), ROWS, 4, 5)[-1])
        self.assertEqual(hall.course("s"), Course(with_table(KEEP2)))
        bands = [Band("one", 3, pace=7), Band("two", 4)]
        hall.do(("change", "w", Work("ab", bands)))
        self.assertEqual(hall.rows("s"), slow_run(Course(Work("ab", bands)), ROWS, 4, 5)[-1])
        self.assertEqual((hall.stand("s"), hall.beginning("s")), (("w", 5, 9), ROWS))

    def test_a_run_cut_in_parts(self):
        for chance in chances(20, 141):
            work = some_work(chance)
            rows = some_rows(chance, work)
            parts = [chance.choice([0, 1, 5, 40]) for _ in range(6)]
            hall = hall_of(("work", "w", work), ("stand", "s", "w", 3, rows), *[("run", "s", beats) for beats in parts])
            whole = hall_of(("work", "w", work), ("stand", "s", "w", 3, rows), ("run", "s", sum(parts)))
            self.assertEqual(hall, whole)
            self.assertEqual(hall.rows("s"), behind(Course(work), rows, sum(parts), begin=3))

    def test_far(self):
        hall = small_hall(("run", "s", FAR // 10), ("put", "s", TOP, "b"), ("run", "s", FAR // 10))
        course = Course(small_work(), puts=[(FAR // 10 + 6, TOP, "b")])
        self.assertEqual(hall.course("s"), course)
        self.assertEqual(hall.rows("s"), behind(course, ROWS, 2 * (FAR // 10), begin=5))


class NoDeeds(Refusals):

    def no_deed(self, hall, *deeds):
        """That none of these is a deed, and that nothing is changed by asking."""
        before = all_of(hall)
        for deed in deeds:
            self.refused(NoDeed, {"at": 0}, hall.do, deed)
            self.refused(NoDeed, {"at": 0}, hall.several, [deed])
            self.refused(NoDeed, {"at": 1}, hall.several, [("run", "s", 1), deed, None])
        self.assertEqual(all_of(hall), before)

    def test_anything(self):
        self.no_deed(small_hall(), *odd_things(), (), 5, "drop", ["drop", "s"], {"drop": "s"}, ("drop",), (("drop", "s"),))

    def test_words_and_counts(self):
        good = [("work", "v", small_work()), ("change", "w", small_work()), ("stand", "t", "w", 0, ROWS),
                ("twin", "s", "t"),
                ("run", "s", 1), ("put", "s", SPOT, "a"), ("lift", "s", 0, "up"), ("look", "s", SPOT), ("drop", "s")]
        for deed in good:
            small_hall().do(deed)
            self.no_deed(small_hall(), list(deed), deed[:-1], (*deed, None), (*deed, "a"), deed[:1], deed[1:],
                         (deed[0].upper(), *deed[1:]), (deed[0] + "s", *deed[1:]), ([deed[0]], *deed[1:]),
                         (None, *deed[1:]), ("", *deed[1:]), (True, *deed[1:]), ((deed[0],), *deed[1:]),
                         ("undo", *deed[1:]))

    def test_names(self):
        odd = ["", "S", "abcdefghi", "a1", "a b", "\u00e9", 0, None, True, ["s"], ("s",), {"s": 1}, b"s"]
        for name in odd:
            self.no_deed(small_hall(), ("work", name, small_work()), ("change", name, small_work()),
                         ("stand", name, "w", 0, ROWS), ("stand", "t", name, 0, ROWS), ("twin", name, "t"),
                         ("twin", "s", name),
                         ("run", name, 1), ("put", name, SPOT, "a"), ("lift", name, 0, "up"), ("look", name, SPOT),
                         ("drop", name))

    def test_works(self):
        for thing in odd_things():
            if not isinstance(thing, Work):
                self.no_deed(small_hall(), ("work", "v", thing), ("change", "w", thing))

    def test_whole_numbers_at_their_bounds(self):
        for number in [-1, FAR + 1, True, False, 1.0, "1", None, [1], (1,), -FAR]:
            self.no_deed(small_hall(), ("stand", "t", "w", number, ROWS), ("run", "s", number))
        for number in [-1, 8, True, False, 0.0, "0", None, [0], FAR]:
            self.no_deed(small_hall(), ("lift", "s", number, "up"))
        for number in range(1, 8):
            self.refused(Unfit, {"name": "s"}, small_hall().do, ("lift", "s", number, "down"))
        small_hall().do(("stand", "t", "w", FAR, ROWS))
        hall_of(("work", "w", small_work()), ("stand", "s", "w", 0, ROWS), ("run", "s", FAR), ("run", "s", 0))

    def test_places_signs_words(self):
        for place in [["two", 1], ("two", True), ("two", -1), ("two",), ("two", 1, 1), "two", ("Two", 1), (1, "two"),
                      None, 0,
                      ("two", 1.0), ("two", "1"), ("", 0), ("abcdefghi", 0)]:
            self.no_deed(small_hall(), ("put", "s", place, "a"), ("look", "s", place))
        for place in [("two", 4), ("six", 0), ("two", 12), ("two", FAR)]:
            self.refused(Unfit, {"name": "s"}, small_hall().do, ("put", "s", place, "a"))
            self.refused(Unfit, {"name": "s"}, small_hall().do, ("look", "s", place))
        for sign in ["", "ab", "A", "1", " ", "\u00e9", 0, None, True, ["a"], ("a",)]:
            self.no_deed(small_hall(), ("put", "s", SPOT, sign))
        for word in ["", "Up", "UP", "u", "x", None, 0, True, ["up"], ("up",)]:
            self.no_deed(small_hall(), ("lift", "s", 0, word))

    def test_rows(self):
        for rows in [list(ROWS), "aba", None, ("aba", 5), ("aba", None), (["aba"], "abba"), 0, {"one": "aba"},
                     (True, "abba"),
                     (b"aba", b"abba")]:
            self.no_deed(small_hall(), ("stand", "t", "w", 0, rows))
        for rows in [(), ("aba",), ("aba", "abb"), ("abba", "aba"), ("aba", "abbc"), ("", ""), (*ROWS, "a"),
                     ("ABA", "abba")]:
            self.refused(Unfit, {"name": "t"}, small_hall().do, ("stand", "t", "w", 0, rows))


class RefusedDeeds(Refusals):

    def refuse(self, error, fields, hall, deed):
        """That a deed is refused, alone and among several, and that all is as it was, undo and redo too."""
        before = all_of(hall)
        self.refused(error, fields, hall.do, deed)
        self.refused(error, fields, hall.several, [("work", "zzzz", small_work()), deed])
        self.refused(error, fields, hall.several, [deed, ("work", "zzzz", small_work())])
        self.assertEqual(all_of(hall), before)

    def test_taken(self):
        hall = small_hall(("work", "v", mixed_work()))
        for name in ["w", "s", "v"]:
            self.refuse(Taken, {"name": name}, hall, ("work", name, small_work()))
            self.refuse(Taken, {"name": name}, hall, ("stand", name, "w", 0, ROWS))
            self.refuse(Taken, {"name": name}, hall, ("stand", name, "none", 0, ()))
            self.refuse(Taken, {"name": name}, hall, ("twin", "s", name))
            self.refuse(Taken, {"name": name}, hall, ("twin", "none", name))
            self.refuse(Taken, {"name": name}, hall, ("twin", "w", name))

    def test_no_name(self):
        hall = small_hall()
        for name in ["none", "s"]:
            self.refuse(NoName, {"name": name}, hall, ("change", name, mixed_work()))
            self.refuse(NoName, {"name": name}, hall, ("stand", "t", name, 0, ()))
        for name in ["none", "w"]:
            self.refuse(NoName, {"name": name}, hall, ("twin", name, "t"))
            self.refuse(NoName, {"name": name}, hall, ("run", name, FAR))
            self.refuse(NoName, {"name": name}, hall, ("put", name, ("six", 0), "z"))
            self.refuse(NoName, {"name": name}, hall, ("lift", name, 7, "up"))
            self.refuse(NoName, {"name": name}, hall, ("look", name, ("six", 0)))
        self.refuse(NoName, {"name": "none"}, hall, ("drop", "none"))

    def test_needed(self):
        hall = small_hall(("stand", "r", "w", 0, ROWS), ("work", "v", small_work()), ("stand", "a", "v", 0, ROWS))
        self.refuse(Needed, {"name": "w", "by": "r"}, hall, ("drop", "w"))
        self.refuse(Needed, {"name": "v", "by": "a"}, hall, ("drop", "v"))
        hall.do(("drop", "r"))
        self.refuse(Needed, {"name": "w", "by": "s"}, hall, ("drop", "w"))
        hall.several([("drop", "s"), ("drop", "w")])
        self.assertEqual(hall.names(), ["a", "v"])

    def test_unfit(self):
        hall = small_hall(("lift", "s", 0, "up"))
        for bands in [[Band("one", 3)], [Band("one", 3), Band("two", 5)], [Band("two", 4), Band("one", 3)],
                      [Band("one", 3), Band("too", 4)], [Band("one", 3), Band("two", 4), Band("six", 1)]]:
            self.refuse(Unfit, {"name": "w"}, hall, ("change", "w", Work("ab", bands)))
        self.refuse(Unfit, {"name": "w"}, hall, ("change", "w", Work("abc", small_work().bands())))
        self.refuse(Unfit, {"name": "w"}, hall, ("change", "w", Work("ac", small_work().bands())))
        # A lift speaks of press 0, which there isn't.
        self.refuse(Unfit, {"name": "w"}, hall, ("change", "w", Work("ab", small_work().bands())))
        self.refuse(Unfit, {"name": "t"}, hall, ("stand", "t", "w", 0, ("aba", "abbc")))
        self.refuse(Unfit, {"name": "s"}, hall, ("put", "s", ("one", 3), "a"))
        self.refuse(Unfit, {"name": "s"}, hall, ("put", "s", ("six", 0), "a"))
        self.refuse(Unfit, {"name": "s"}, hall, ("put", "s", TOP, "c"))
        self.refuse(Unfit, {"name": "s"}, hall, ("lift", "s", 1, "up"))
        self.refuse(Unfit, {"name": "s"}, hall, ("look", "s", ("two", 4)))
        hall.do(("drop", "s"))
        hall.do(("change", "w", Work("ab", small_work().bands())))

    def test_fewer_presses_than_lifts_speak_of(self):
        press = small_work().presses()[0]
        three, two, one = [Work("ab", small_work().bands(), [press] * many) for many in (3, 2, 1)]
        hall = hall_of(("work", "w", three), ("stand", "s", "w", 0, ROWS), ("stand", "t", "w", 0, ROWS),
                       ("lift", "t", 1, "up"),
                       ("work", "v", three), ("stand", "o", "v", 0, ROWS), ("lift", "o", 2, "up"))
        self.refuse(Unfit, {"name": "w"}, hall, ("change", "w", one))
        hall.do(("change", "w", two))
        self.refuse(Unfit, {"name": "v"}, hall, ("change", "v", two))
        hall.do(("drop", "t"))
        hall.do(("change", "w", one))

    def test_full(self):
        puts, lifts = [("put", "s", SPOT, "a")], [("lift", "s", 0, "up")]
        for deeds in [puts * 12, lifts * 12, puts * 7 + lifts * 5, lifts * 11 + puts]:
            hall = small_hall(*deeds)
            self.refuse(Full, {"name": "s"}, hall, puts[0])
            self.refuse(Full, {"name": "s"}, hall, lifts[0])
            self.refuse(Unfit, {"name": "s"}, hall, ("put", "s", SPOT, "z"))
            self.refuse(Unfit, {"name": "s"}, hall, ("lift", "s", 1, "up"))
            self.assertEqual(hall.do(("look", "s", SPOT)), "b")
            hall.several([("run", "s", 1), ("twin", "s", "t")])
            self.refuse(Full, {"name": "t"}, hall, ("put", "t", SPOT, "a"))
        hall = small_hall(*[("look", "s", SPOT)] * 29)
        self.assertEqual(hall.do(("look", "s", TOP)), "a")
        self.refuse(Full, {"name": "s"}, hall, ("look", "s", TOP))
        self.refuse(Unfit, {"name": "s"}, hall, ("look", "s", ("one", 3)))
        hall.do(("run", "s", 5))
        self.refuse(Full, {"name": "s"}, hall, ("look", "s", TOP))
        hall.do(("put", "s", TOP, "a"))
        hall.undo()
        hall.undo()
        hall.undo()
        self.assertEqual(hall.do(("look", "s", SPOT)), "b")

    def test_too_long(self):
        rows = one_marked(wheels(LONG))
        hall = hall_of(("work", "w", wheels(LONG)), ("stand", "s", "w", 7, rows), ("run", "s", 600))
        self.refuse(TooLong, {"beats": 1001}, hall, ("run", "s", 401))
        self.refuse(TooLong, {"beats": FAR}, hall, ("run", "s", FAR - 600))
        hall.do(("run", "s", 400))
        self.refuse(TooLong, {"beats": 1001}, hall, ("run", "s", 1))
        hall.several([("run", "s", 0), ("look", "s", ("a", 0)), ("twin", "s", "t")])
        # A put of the beat behind begins a stretch; the one ahead of it has 1001 beats by now.
        hall.do(("put", "s", ("a", 0), "b"))
        self.refuse(TooLong, {"beats": 1001}, hall, ("run", "s", 2))
        hall.undo()
        hall.undo()
        hall.undo()
        hall.do(("put", "s", ("a", 0), "b"))
        hall.do(("run", "s", 1001))
        self.assertEqual(hall.stand("s"), ("w", 7, 7 + 600 + 1 + 1000))
        self.refuse(TooLong, {"beats": 1001}, hall, ("run", "s", 1))

    def test_too_long_behind_a_lift(self):
        bands = wheels(LONG).bands()
        work = Work("ab", bands, [Press(("a", 0), ("a", 0), KEEP2)])
        hall = hall_of(("work", "w", work), ("stand", "s", "w", 7, one_marked(work)), ("run", "s", 1000),
                       ("lift", "s", 0, "up"))
        hall.do(("run", "s", 1000))
        self.refuse(TooLong, {"beats": 1001}, hall, ("run", "s", 1))
        hall.several([("lift", "s", 0, "up"), ("run", "s", 1000)])
        self.assertEqual(hall.stand("s"), ("w", 7, 3007))

    def test_seen(self):
        hall = small_hall(("look", "s", SPOT), ("run", "s", 1), ("look", "s", TOP), ("look", "s", ("two", 0)),
                          ("run", "s", 1), ("look", "s", ("two", 3)), ("look", "s", ("two", 0)))
        before = hall.looks("s")
        turned = slow_run(Course(with_table(("ba", "ab"))), ROWS, 2, 5)
        first = next(at for at, (beat, place, sign) in enumerate(before)
                     if place_sign(small_work(), turned[beat - 5], place) != sign)
        self.assertEqual(first, 2)
        self.refuse(Seen, {"name": "s", "number": 2}, hall, ("change", "w", with_table(("ba", "ab"))))
        self.refuse(Seen, {"name": "s", "number": 1}, hall, ("change", "w", faster_one()))
        # Stands go as texts are, each with its own looks; those of other works don't.
        hall.do(("twin", "s", "r"))
        self.refuse(Seen, {"name": "r", "number": 2}, hall, ("change", "w", with_table(("ba", "ab"))))
        hall.several([("work", "v", small_work()), ("stand", "a", "v", 0, ROWS), ("run", "a", 1),
                      ("look", "a", ("two", 0))])
        self.refuse(Seen, {"name": "r", "number": 2}, hall, ("change", "w", with_table(("ba", "ab"))))
        hall.several([("drop", "r"), ("drop", "s"), ("change", "w", with_table(("ba", "ab")))])

    def test_too_long_and_seen_go_by_stands(self):
        fast = Work("ab", [Band(name, long, pace=1) for name, long in zip("abcde", LONG)])
        still = Work("ab", [Band(name, long) for name, long in zip("abcde", LONG)])
        marked = one_marked(still)
        look = ("look", "s", ("a", 0))
        hall = hall_of(("work", "w", still), ("stand", "s", "w", 0, marked), ("run", "s", 1), look, ("run", "s", 5000))
        self.assertEqual(hall.looks("s"), [(1, ("a", 0), "b")])
        # Of one stand TooLong goes ahead of its looks ..
        self.refuse(TooLong, {"beats": 5001}, hall, ("change", "w", fast))
        # .. and stands go one by one.
        hall.several([("stand", "r", "w", 0, marked), ("run", "r", 1), ("look", "r", ("a", 0))])
        self.refuse(Seen, {"name": "r", "number": 0}, hall, ("change", "w", fast))
        hall.several([("stand", "q", "w", 0, marked), ("run", "q", 2000)])
        self.refuse(TooLong, {"beats": 2000}, hall, ("change", "w", fast))
        hall.several([("drop", "q"), ("drop", "s"), ("stand", "t", "w", 3, marked), ("run", "t", 1001)])
        self.refuse(Seen, {"name": "r", "number": 0}, hall, ("change", "w", fast))
        hall.do(("drop", "r"))
        self.refuse(TooLong, {"beats": 1001}, hall, ("change", "w", fast))

    def test_seen_behind_a_far_run(self):
        hall = small_hall(("look", "s", SPOT), ("run", "s", FAR // 10), ("look", "s", SPOT), ("put", "s", SPOT, "a"),
                          ("run", "s", FAR // 10), ("lift", "s", 0, "up"), ("look", "s", ("two", 2)), ("run", "s", 3),
                          ("look", "s", SPOT))
        for work in [with_table(("ba", "ab")), with_table(("aa", "bb")), with_table(KEEP2),
                     with_table(FLIP2, rhythm="x-"),
                     with_table(FLIP2, rhythm="xxx")]:
            told = [place_sign(work, behind(Course(work, puts=hall.course("s").puts(), lifts=hall.course("s").lifts()),
                                            ROWS,
                                            beat - 5, begin=5), place) for beat, place, _ in hall.looks("s")]
            unlike = [at for at, look in enumerate(hall.looks("s")) if look[2] != told[at]]
            if unlike:
                self.refuse(Seen, {"name": "s", "number": unlike[0]}, hall, ("change", "w", work))
            else:
                hall.do(("change", "w", work))
                hall.undo()

    def test_the_order_within_a_deed(self):
        hall = small_hall(*[("put", "s", SPOT, "a")] * 12, *[("look", "s", SPOT)] * 30)
        self.refuse(NoName, {"name": "w"}, hall, ("put", "w", ("six", 0), "z"))
        self.refuse(Unfit, {"name": "s"}, hall, ("put", "s", ("six", 0), "z"))
        self.refuse(Full, {"name": "s"}, hall, ("put", "s", SPOT, "a"))
        self.refuse(Taken, {"name": "s"}, hall, ("stand", "s", "none", 0, ("z",)))
        self.refuse(NoName, {"name": "none"}, hall, ("stand", "t", "none", 0, ("z",)))
        self.refuse(Unfit, {"name": "t"}, hall, ("stand", "t", "w", 0, ("z",)))


class Several(Refusals):

    def test_all_in_order(self):
        hall = Hall()
        told = hall.several(deeds=[("work", "w", small_work()), ("stand", "s", "w", 0, ROWS), ("look", "s", SPOT),
                                   ("run", "s", 1), ("look", "s", ("one", 1)), ("drop", "s"),
                                   ("stand", "s", "w", 2, ROWS)])
        self.assertEqual(told, [None, None, "b", None, "a", None, None])
        self.assertEqual((hall.names(), hall.stand("s"), hall.looks("s")), (["s", "w"], ("w", 2, 2), []))
        told.clear()
        self.assertEqual(len(hall), 2)

    def test_none_where_one_is_refused(self):
        hall = small_hall()
        before = all_of(hall)
        self.refused(Taken, {"name": "w"}, hall.several, [("run", "s", 1), ("drop", "s"), ("work", "w", small_work())])
        self.refused(NoName, {"name": "s"}, hall.several, [("drop", "s"), ("look", "s", SPOT), ("drop", "none")])
        self.refused(Needed, {"name": "w", "by": "s"}, hall.several, [("run", "s", 1), ("drop", "w"), ("drop", "s")])
        self.assertEqual(all_of(hall), before)
        self.assertTrue(hall.undo())
        self.assertEqual(hall.names(), ["w"])

    def test_no_deed_goes_ahead_of_all(self):
        hall = small_hall()
        self.refused(NoDeed, {"at": 2}, hall.several,
                     [("drop", "none"), ("work", "w", small_work()), ("run", "s", -1), None])
        self.refused(NoDeed, {"at": 1}, hall.several, [("drop", "s"), ("drop", "S")])
        self.refused(NoDeed, {"at": 0}, hall.several, [None, None])
        self.assertEqual(hall.names(), ["s", "w"])

    def test_what_is_no_list(self):
        hall = small_hall()
        for thing in [None, (), (("run", "s", 1),), "", {}, 0, ("drop", "s"),
                      *[odd for odd in odd_things() if not isinstance(odd, list)]]:
            self.refused(NoDeed, {"at": 0}, hall.several, thing)
        self.assertEqual(hall, small_hall())

    def test_of_no_deeds_nothing(self):
        hall = small_hall(("run", "s", 1))
        self.assertTrue(hall.undo())
        self.assertEqual(hall.several([]), [])
        self.assertTrue(hall.redo())
        self.assertEqual(hall.stand("s"), ("w", 5, 6))
        self.assertEqual(hall.several([]), [])
        self.assertTrue(hall.undo())
        self.assertEqual(hall.stand("s"), ("w", 5, 5))
        self.assertEqual(Hall().several([]), [])
        self.assertIs(Hall().undo(), False)

    def test_the_list_stays_as_it_is(self):
        deeds = [("work", "w", small_work()), ("run", "s", 1)]
        hall = Hall()
        self.refused(NoName, {"name": "s"}, hall.several, deeds)
        self.assertEqual(deeds, [("work", "w", small_work()), ("run", "s", 1)])
        deeds.pop()
        hall.several(deeds)
        deeds.clear()
        self.assertEqual(hall.names(), ["w"])


class Undo(Refusals):

    def test_there_is_none(self):
        hall = Hall()
        self.assertIs(hall.undo(), False)
        self.assertIs(hall.redo(), False)
        hall.do(("work", "w", small_work()))
        self.assertIs(hall.redo(), False)
        self.assertIs(hall.undo(), True)
        self.assertIs(hall.undo(), False)
        self.assertIs(hall.redo(), True)
        self.assertIs(hall.redo(), False)
        self.assertEqual(hall.names(), ["w"])

    def test_each_deed(self):
        deeds = [("work", "w", small_work()), ("stand", "s", "w", 5, ROWS), ("look", "s", SPOT), ("run", "s", 0),
                 ("run", "s", 2),
                 ("put", "s", TOP, "b"), ("lift", "s", 0, "up"), ("twin", "s", "t"), ("run", "t", 7),
                 ("look", "t", TOP), ("drop", "s"),
                 ("change", "w", with_table(KEEP2, rhythm="xx")), ("drop", "t"), ("drop", "w")]
        hall = Hall()
        stands = [all_of(hall)]
        done = []
        for deed in deeds:
            try:
                hall.do(deed)
            except Seen:
                continue
            done.append(deed)
            stands.append(all_of(hall))
        self.assertGreater(len(done), 12)
        for _ in range(2):
            for due in stands[-2::-1]:
                self.assertIs(hall.undo(), True)
                self.assertEqual(all_of(hall), due)
            self.assertIs(hall.undo(), False)
            for due in stands[1:]:
                self.assertIs(hall.redo(), True)
                self.assertEqual(all_of(hall), due)
            self.assertIs(hall.redo(), False)

    def test_a_run_of_0_is_one_too(self):
        hall = small_hall(("run", "s", 0))
        self.assertEqual(hall, small_hall())
        self.assertTrue(hall.undo())
        self.assertEqual(hall, small_hall())
        self.assertTrue(hall.undo())
        self.assertEqual(hall.names(), ["w"])

    def test_several_as_one(self):
        hall = small_hall()
        hall.several([("run", "s", 1), ("look", "s", TOP), ("twin", "s", "t")])
        after = all_of(hall)
        self.assertTrue(hall.undo())
        self.assertEqual(hall, small_hall())
        self.assertTrue(hall.redo())
        self.assertEqual(all_of(hall), after)

    def test_looks_undone_and_done_once_more(self):
        hall = small_hall(("run", "s", 1), ("look", "s", ("two", 0)))
        turned = ("change", "w", with_table(("ba", "ab")))
        self.refused(Seen, {"name": "s", "number": 0}, hall.do, turned)
        self.assertTrue(hall.undo())
        self.assertEqual((hall.looks("s"), hall.how_many("s")), ([], 128))
        self.assertTrue(hall.redo())
        self.assertEqual(hall.how_many("s"), 64)
        self.refused(Seen, {"name": "s", "number": 0}, hall.do, turned)
        self.assertTrue(hall.undo())
        # What was looked at is forgotten.
        hall.do(turned)
        self.assertIs(hall.redo(), False)
        self.assertTrue(hall.undo())
        self.assertEqual(hall.work("w"), small_work())

    def test_what_ends_a_redo(self):
        for end in [lambda hall: hall.do(("run", "s", 0)), lambda hall: hall.do(("look", "s", TOP)),
                    lambda hall: hall.several([("run", "s", 2), ("run", "s", 3)])]:
            hall = small_hall(("run", "s", 1), ("run", "s", 2))
            hall.undo()
            hall.undo()
            end(hall)
            after = all_of(hall)
            self.assertIs(hall.redo(), False)
            self.assertEqual(all_of(hall), after)
            self.assertTrue(hall.undo())
            self.assertEqual(hall, small_hall())

    def test_what_does_not_end_a_redo(self):
        hall = small_hall(("run", "s", 1))
        hall.undo()
        for error, deed in [(NoDeed, None), (Taken, ("work", "w", small_work())), (NoName, ("drop", "none")),
                            (Needed, ("drop", "w")), (Unfit, ("look", "s", ("two", 4)))]:
            self.assertRaises(error, hall.do, deed)
            self.assertRaises(error, hall.several, [("run", "s", 4), deed])
        self.assertRaises(NoDeed, hall.several, None)
        self.assertEqual(hall.several([]), [])
        all_of(hall), hall.tree("s"), hall.may_be("s", ROWS), hall.has("s"), len(hall), hall == small_hall()
        self.assertTrue(hall.redo())
        self.assertEqual(hall.stand("s"), ("w", 5, 6))


class Told(Refusals):

    def test_names(self):
        hall = hall_of(*[("work", name, small_work()) for name in ["b", "ab", "zzzzzzzz", "a"]],
                       ("stand", "aa", "b", 0, ROWS))
        self.assertEqual((hall.names(), len(hall)), (["a", "aa", "ab", "b", "zzzzzzzz"], 5))
        hall.names().clear()
        self.assertEqual(len(hall.names()), 5)
        self.assertEqual((Hall().names(), len(Hall())), ([], 0))

    def test_has_of_anything(self):
        hall = small_hall()
        for name, due in [("w", True), ("s", True), ("t", False), ("S", False), ("", False)]:
            self.assertIs(hall.has(name), due)
        self.assertIs(hall.has(name="w"), True)
        for thing in odd_things():
            self.assertIs(hall.has(thing), False)

    def test_no_name(self):
        hall = small_hall()
        of_stand = [hall.stand, hall.beginning, hall.rows, hall.course, hall.looks, hall.tree, hall.how_many, hall.sure,
                    lambda name: hall.may_be(name, ROWS), lambda name: hall.may_be(name, None)]
        for call in of_stand:
            self.refused(NoName, {"name": "w"}, call, "w")
        self.refused(NoName, {"name": "s"}, hall.work, "s")
        for call in [*of_stand, hall.work, hall.sort_of]:
            for thing in ["none", "S", "", 0, None, True, ["w"], ("w",), {"w": 1}, [["s"]]]:
                self.refused(NoName, {"name": thing}, call, thing)

    def test_by_names(self):
        hall = small_hall()
        for call in [hall.sort_of, hall.stand, hall.beginning, hall.rows, hall.course, hall.looks, hall.tree,
                     hall.how_many,
                     hall.sure]:
            self.assertEqual(call(name="s"), call("s"))
        self.assertEqual(hall.work(name="w"), small_work())
        self.assertIs(hall.may_be(name="s", rows=ROWS), True)

    def test_lists_are_the_asker_s(self):
        hall = small_hall(("look", "s", SPOT), ("put", "s", TOP, "a"))
        hall.looks("s").clear()
        hall.tree("s").clear()
        hall.sure("s").clear()
        hall.course("s").puts().clear()
        self.assertEqual(hall.looks("s"), [(5, SPOT, "b")])
        self.assertEqual(len(hall.tree("s")), 3)
        self.assertEqual(hall.sure("s"), [(SPOT, "b")])

    def test_the_tree_and_what_it_lets_be(self):
        hall = small_hall(("look", "s", SPOT), ("run", "s", 3), ("look", "s", ("two", 0)), ("look", "s", TOP))
        course = Course(small_work())
        tree = tree_of(course, hall.looks("s"), begin=5)
        found = boxes(small_work(), tree)
        self.assertEqual(hall.tree("s"), tree)
        self.assertEqual(hall.how_many("s"), how_many(found))
        self.assertEqual(hall.sure("s"), sure(small_work(), found))
        for rows in all_rows(small_work()):
            due = shows(course, rows, hall.looks("s"), 5)
            self.assertIs(hall.may_be("s", rows), due)
            self.assertIs(any(in_box(box, rows) for box in found), due)

    def test_may_be_of_what_is_no_rows(self):
        hall = small_hall(("look", "s", SPOT))
        for rows in [None, list(ROWS), ("aba",), ("aba", "abbc"), ("abba", "aba"), (), "aba", ("ab", "aabba"),
                     *odd_things()]:
            self.assertIs(hall.may_be("s", rows), False)
        self.assertIs(hall.may_be("s", ROWS), True)
        self.assertIs(hall.may_be("s", ("aba", "aaba")), False)

    def test_near_looks(self):
        hall = small_hall(("run", "s", DEEPEST), ("look", "s", TOP), ("run", "s", 1), ("look", "s", TOP),
                          ("look", "s", SPOT))
        self.assertEqual(len(hall.looks("s")), 3)
        self.assertEqual(hall.tree("s"), tree_of(Course(small_work()), hall.looks("s")[:1], begin=5))
        self.assertEqual(hall.how_many("s"), 64)
        far = small_hall(("run", "s", DEEPEST + 1), ("look", "s", TOP))
        self.assertEqual((far.tree("s"), far.how_many("s"), far.sure("s")), ([("fits",)], 128, []))
        # Far looks are kept, and a change is asked of them.
        self.refused(Seen, {"name": "s", "number": 1}, hall.do, ("change", "w", faster_one()))

    def test_puts_of_begin_are_none(self):
        hall = hall_of(("work", "w", small_work()), ("stand", "s", "w", 0, ROWS), ("lift", "s", 0, "up"),
                       ("put", "s", SPOT, "a"),
                       ("look", "s", SPOT), ("run", "s", 1), ("look", "s", SPOT))
        self.assertEqual(hall.looks("s"), [(0, SPOT, "b"), (1, SPOT, "a")])
        self.assertEqual(hall.sure("s"), [(SPOT, "b")])

    def test_too_many(self):
        course, (_, place) = many_reads(4)
        rows = ("a",) * 6
        hall = hall_of(("work", "w", course.work()), ("stand", "s", "w", 0, rows), ("put", "s", ("e", 0), "a"),
                       ("put", "s", ("k", 0), "a"), ("run", "s", 2), ("look", "s", place))
        for call in [hall.tree, hall.how_many, hall.sure, lambda name: hall.may_be(name, rows)]:
            self.refused(TooMany, {"many": 200}, call, "s")
        self.assertEqual(len(hall.looks("s")), 1)
        hall.undo()
        self.assertEqual(hall.how_many("s"), 4 ** 6)

    def test_equal_halls(self):
        one = small_hall(("run", "s", 1), ("look", "s", TOP), ("put", "s", SPOT, "a"))
        other = Hall()
        other.several([("work", "v", mixed_work()), ("work", "w", small_work()), ("stand", "t", "w", 5, ROWS)])
        other.several([("drop", "v"), ("run", "t", 1), ("look", "t", TOP)])
        self.assertNotEqual(one, other)
        other.do(("put", "t", SPOT, "a"))
        self.assertFalse(one == other)
        other.several([("twin", "t", "s"), ("drop", "t")])
        self.assertEqual(one, other)
        other.undo()
        self.assertTrue(one != other)
        for deeds in [[("run", "s", 1)], [("look", "s", TOP)], [("put", "s", SPOT, "a")], [("lift", "s", 0, "up")],
                      [("work", "v", small_work())], [("change", "w", with_table(FLIP2, "xx"))], [("twin", "s", "t")],
                      [("drop", "s")]]:
            hall = small_hall(("run", "s", 1), ("look", "s", TOP), ("put", "s", SPOT, "a"))
            hall.several(deeds)
            self.assertNotEqual(one, hall)
            hall.undo()
            self.assertEqual(one, hall)
        self.assertNotEqual(small_hall(), hall_of(("work", "w", small_work()), ("stand", "s", "w", 6, ROWS)))
        self.assertNotEqual(small_hall(), hall_of(("work", "w", small_work()), ("stand", "s", "w", 5, ("aba", "abbb"))))
        for thing in odd_things():
            self.assertFalse(one == thing)
        self.assertFalse(one == {"w": small_work()})
        self.assertEqual(Hall(), Hall())
        self.assertNotEqual(Hall(), one)

    def test_stands_that_are_unlike_in_one_thing(self):
        still, wiped = Work("ab", [Band("a", 1)]), Work("ab", [Band("a", 1)], [Press(("a", 0), ("a", 0), ("aa", "aa"))])
        works = [("work", "v", still), ("work", "w", still), ("work", "x", wiped)]
        one = hall_of(*works, ("stand", "s", "v", 5, ("a",)), ("run", "s", 1))
        for name, begin, rows, beats in [("w", 5, "a", 1), ("v", 6, "a", 0), ("v", 5, "b", 1), ("v", 5, "a", 2)]:
            other = hall_of(*works, ("stand", "s", name, begin, (rows,)), ("run", "s", beats))
            self.assertFalse(one == other)
            other.several([("drop", "s"), ("stand", "s", "v", 5, ("a",)), ("run", "s", 1)])
            self.assertTrue(one == other)
        same = [hall_of(*works, ("stand", "s", "x", 5, (rows,)), ("run", "s", 1)) for rows in "ab"]
        self.assertEqual(same[0].rows("s"), same[1].rows("s"))
        self.assertFalse(same[0] == same[1])

    def test_a_change_to_what_shows_the_same_is_never_refused(self):
        for chance in chances(20, 142):
            work = some_work(chance, longs=(1, 2, 3))
            hall = hall_of(("work", "w", work), ("stand", "s", "w", chance.choice([0, 3]), some_rows(chance, work)))
            for _ in range(10):
                hall.do(chance.choice([("run", "s", chance.randint(0, 4)),
                                       ("look", "s", chance.choice(work.places()))]))
            keep = tuple(work.signs() for _ in work.signs())
            same = Work(work.signs(), [Band(band.called(), band.long(), pace=band.pace() % band.long())
                                       for band in work.bands()],
                        [*work.presses(), Press(work.places()[0], work.places()[-1], keep, rhythm="-x")])
            looks = hall.looks("s")
            hall.do(("change", "w", same))
            self.assertEqual((hall.looks("s"), hall.work("w")), (looks, same))


class Model:
    """A hall done the slow way: each stand is run anew whenever it is asked."""

    def __init__(self):
        self.works, self.stands, self.past, self.undone = {}, {}, [], []

    def rows(self, name, beat=None):
        """The rows of a stand behind a beat."""
        stand = self.stands[name]
        course = Course(self.works[stand["work"]], puts=stand["puts"], lifts=stand["lifts"])
        beat = stand["beat"] if beat is None else beat
        return slow_run(course, stand["rows"], beat - stand["begin"], stand["begin"])[-1]

    def do(self, deed):
        """Do a deed that is one: what it tells, or its refusal's class and fields."""
        copies = (dict(self.works), {name: dict(stand) for name, stand in self.stands.items()})
        told = self.done(*deed)
        if isinstance(told, tuple):
            self.works, self.stands = copies
            return told
        self.past.append(copies)
        self.undone = []
        return told

    def turn(self, source, goal):
        """Undo or redo."""
        if not source:
            return False
        goal.append((self.works, self.stands))
        self.works, self.stands = source.pop()
        return True

    def done(self, word, name, *rest):
        """Do it, refused in the document's order."""
        new = rest[0] if word == "twin" else name if word in ("work", "stand") else None
        if new in self.works or new in self.stands:
            return (Taken, {"name": new})
        asked = rest[0] if word == "stand" else name
        sort = {"change": [self.works], "stand": [self.works], "drop": [self.works, self.stands],
                "work": None}.get(word, [self.stands])
        if sort is not None and not any(asked in things for things in sort):
            return (NoName, {"name": asked})
        return getattr(self, "do_" + word)(name, *rest)

    def do_work(self, name, work):
        """A work."""
        self.works[name] = work

    def do_change(self, name, work):
        """A change."""
        elder = self.works[name]
        stands = sorted(each for each in self.stands if self.stands[each]["work"] == name)
        if (work.signs(), [(band.called(), band.long()) for band in work.bands()]) != (
                elder.signs(), [(band.called(), band.long()) for band in elder.bands()]):
            return (Unfit, {"name": name})
        if any(press >= len(work.presses()) for each in stands for _, press, _ in self.stands[each]["lifts"]):
            return (Unfit, {"name": name})
        self.works[name] = work
        for each in stands:
            for number, (beat, place, sign) in enumerate(self.stands[each]["looks"]):
                if place_sign(work, self.rows(each, beat), place) != sign:
                    return (Seen, {"name": each, "number": number})

    def do_stand(self, name, work, begin, rows):
        """A stand."""
        bands, signs = self.works[work].bands(), self.works[work].signs()
        if [len(text) for text in rows] != [band.long() for band in bands] or set("".join(rows)) - set(signs):
            return (Unfit, {"name": name})
        self.stands[name] = {"work": work, "begin": begin, "rows": rows, "beat": begin, "puts": [], "lifts": [],
                             "looks": []}

    def do_twin(self, name, other):
        """A twin."""
        self.stands[other] = dict(self.stands[name])

    def do_run(self, name, beats):
        """A run."""
        self.stands[name]["beat"] += beats

    def add(self, name, key, thing, most):
        """One more of something, in a list of its own."""
        stand = self.stands[name]
        if most(stand):
            return (Full, {"name": name})
        stand[key] = stand[key] + [thing]

    def do_put(self, name, place, sign):
        """A put."""
        work = self.works[self.stands[name]["work"]]
        if place not in work.places() or sign not in work.signs():
            return (Unfit, {"name": name})
        return self.add(name, "puts", (self.stands[name]["beat"] + 1, place, sign),
                        lambda stand: len(stand["puts"] + stand["lifts"]) == 12)

    def do_lift(self, name, press, word):
        """A lift."""
        if press >= len(self.works[self.stands[name]["work"]].presses()):
            return (Unfit, {"name": name})
        return self.add(name, "lifts", (self.stands[name]["beat"], press, word),
                        lambda stand: len(stand["puts"] + stand["lifts"]) == 12)

    def do_look(self, name, place):
        """A look."""
        work = self.works[self.stands[name]["work"]]
        if place not in work.places():
            return (Unfit, {"name": name})
        sign = place_sign(work, self.rows(name), place)
        told = self.add(name, "looks", (self.stands[name]["beat"], place, sign),
                        lambda stand: len(stand["looks"]) == 30)
        return sign if told is None else told

    def do_drop(self, name):
        """A drop."""
        users = sorted(each for each in self.stands if self.stands[each]["work"] == name)
        if name in self.works and users:
            return (Needed, {"name": name, "by": users[0]})
        self.works.pop(name, None)
        self.stands.pop(name, None)

    def all(self):
        """All that all_of tells of a hall."""
        told = []
        for name in sorted([*self.works, *self.stands]):
            if name in self.works:
                told.append((name, self.works[name]))
                continue
            stand = self.stands[name]
            course = Course(self.works[stand["work"]], puts=stand["puts"], lifts=stand["lifts"])
            told.append((name, (stand["work"], stand["begin"], stand["beat"]), stand["rows"], self.rows(name), course,
                         stand["looks"]))
        return told


class ByChance(Refusals):

    def some_deed(self, chance, works):
        """A deed by chance, often one that is refused."""
        work = chance.choice(works)
        name = chance.choice(["s", "s", "t", "t", "u", "w", "v", "none"])
        place = chance.choice(works[0].places() + [("six", 0)])
        sign = chance.choice(works[0].signs() + "z" if chance.random() < 0.1 else works[0].signs())
        return chance.choice([
            ("work", chance.choice(["w", "v", "s"]), work), ("change", chance.choice(["w", "v"]), work),
            ("change", "w", work),
            ("stand", name, chance.choice(["w", "v", "none"]), chance.choice([0, 2]), some_rows(chance, work)),
            ("twin", name, chance.choice(["s", "t", "u"])), ("run", name, chance.randint(0, 3)),
            ("run", name, chance.randint(0, 3)),
            ("put", name, place, sign), ("lift", name, chance.randint(0, 2), chance.choice(["up", "down"])),
            ("look", name, place), ("look", "s", place), ("look", "s", place), ("drop", name), ("drop", "w")])

    def test_deed_by_deed(self):
        refused = set()
        for chance in chances(25, 143):
            work = some_work(chance, longs=(1, 2, 3), presses=3, signs=("ab", "abc"))
            others = [Work(work.signs(), work.bands(), [
                Press(press.above(), press.below(), chance.choice([press.table(), press.table()[::-1]]),
                      rhythm=press.rhythm())
                for press in work.presses()[:chance.randint(0, 3)]]) for _ in range(3)]
            works = [work, *others, some_work(chance, longs=(1, 2), presses=2)]
            hall, model = Hall(), Model()
            for deed in [("work", "w", work), ("stand", "s", "w", 2, some_rows(chance, work)), ("run", "s", 2)]:
                self.assertEqual(hall.do(deed), model.do(deed))
            for _ in range(70):
                how = chance.random()
                if how < 0.12:
                    self.assertIs(hall.undo(), model.turn(model.past, model.undone))
                elif how < 0.2:
                    self.assertIs(hall.redo(), model.turn(model.undone, model.past))
                else:
                    deed = self.some_deed(chance, works)
                    due = model.do(deed)
                    if isinstance(due, tuple):
                        refused.add(due[0])
                        self.refused(*due, hall.do, deed)
                    else:
                        self.assertEqual(hall.do(deed), due)
                self.assertEqual(all_of(hall), model.all())
            for name in model.stands:
                # Whatever was done: the beginning lies in a box of the tree.
                try:
                    self.assertIs(hall.may_be(name, hall.beginning(name)), True)
                except TooMany:
                    continue
                sightings = [look for look in hall.looks(name) if look[0] <= hall.stand(name)[1] + DEEPEST]
                self.assertEqual(hall.tree(name), tree_of(hall.course(name), sightings, begin=hall.stand(name)[1]))
        self.assertEqual(refused, {Taken, NoName, Needed, Unfit, Seen})

    def test_several_by_chance(self):
        for chance in chances(25, 144):
            work = some_work(chance, longs=(1, 2), presses=3, signs=("ab", "abc"))
            works = [work, Work(work.signs(), work.bands())]
            start = [("work", "w", work), ("stand", "s", "w", 0, some_rows(chance, work))]
            hall, model = hall_of(*start), Model()
            for deed in start:
                model.do(deed)
            for _ in range(12):
                deeds = [self.some_deed(chance, works) for _ in range(chance.randint(1, 3))]
                copies, told = (model.works, model.stands, list(model.past)), []
                before = (dict(model.works), {name: dict(stand) for name, stand in model.stands.items()})
                for deed in deeds:
                    told.append(model.do(deed))
                    if isinstance(told[-1], tuple):
                        break
                if isinstance(told[-1], tuple):
                    model.works, model.stands, model.past = *before, copies[2]
                    self.refused(*told[-1], hall.several, deeds)
                else:
                    model.past = copies[2] + [before]
                    self.assertEqual(hall.several(deeds), told)
                self.assertEqual(all_of(hall), model.all())
            while model.turn(model.past, model.undone):
                self.assertIs(hall.undo(), True)
                self.assertEqual(all_of(hall), model.all())
            self.assertIs(hall.undo(), False)


if __name__ == "__main__":
    unittest.main()
