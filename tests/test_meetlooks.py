"""Looks at papers of meetings: what they let by and what they don't."""

import itertools
import math
import unittest

from bandprint.bands import Band, Press, Work
from bandprint.errors import NoPlace, NoRows, TooLong, TooMany
from bandprint.meetlooks import shows_meeting
from bandprint.meets import meeting
from tests.samples import KEEP2, Refusals, chances, odd_things, one_marked, tail_course, wheels
from tests.test_meets import late, slow_numbers, some_case, wheel
from tests.test_rounds import LONG


def paper(cases, marks):
    """What is told of cases by these froms and rounds, number by number."""
    found = [slow_numbers(case)[2] for case in cases]
    top = max(first for first, _ in marks)
    parts = [(first, many, tuple(rest for rest in range(many) if is_one(top + (rest - top) % many)))
             for (first, many), is_one in zip(marks, found)]
    for number in range(top):
        if all(is_one(number) for is_one in found):
            return ("at", number, parts, [])
    rows, leasts = [], []
    rounds = [many for _, many in marks]
    for rests in itertools.product(*[each for _, _, each in parts]):
        unlike = apart_in(rests, rounds)
        if unlike:
            rows.append((rests, "apart", *unlike[0]))
            continue
        number = next(number for number in range(top, top + math.lcm(*rounds))
                      if all(number % many == rest for rest, many in zip(rests, rounds)))
        rows.append((rests, "least", number))
        leasts.append(number)
    return ("at", min(leasts), parts, rows) if leasts else ("never", parts, rows)


def apart_in(rests, rounds):
    """All pairs of numbers of rests that are unlike by the divisor of their rounds."""
    return [(i, j) for i in range(len(rests)) for j in range(i + 1, len(rests))
            if (rests[i] - rests[j]) % math.gcd(rounds[i], rounds[j])]


def with_item(thing, at, *items):
    """A list or tuple with other items for one."""
    return thing[:at] + type(thing)(items) + thing[at + 1:]


def within(thing):
    """All that stands in a thing, however deep, each with the way to it."""
    told = []
    if isinstance(thing, (list, tuple)):
        for at, each in enumerate(thing):
            told.append(((at,), each))
            told += [((at, *way), item) for way, item in within(each)]
    return told


def changed(thing, way, item):
    """A thing with another item at the end of a way."""
    if not way:
        return item
    return with_item(thing, way[0], changed(thing[way[0]], way[1:], item))


class Looks(Refusals):

    CASES = [wheel(4, 1), wheel(6, 2, 3, 4)]

    def lets(self, due, cases, *things):
        """What the look says of things."""
        for thing in things:
            self.assertIs(shows_meeting(cases, thing), due, thing)

    def test_the_told_paper(self):
        words = []
        for chance in chances(120, 311):
            cases = [some_case(chance) for _ in range(chance.randint(1, 4))]
            try:
                told = meeting(cases)
            except TooMany:
                continue
            words.append((told[0], told[-1] == []))
            self.lets(True, cases, told)
            self.lets(True, tuple(cases), told)
        self.assertGreater(min(words.count((word, none)) for word in ["at", "never"] for none in [True, False]), 2)

    def test_anything(self):
        told = meeting(self.CASES)
        self.assertEqual(told, ("at", 9, [(0, 4, (1,)), (0, 6, (2, 3, 4))],
                                [((1, 2), "apart", 0, 1), ((1, 3), "least", 9), ((1, 4), "apart", 0, 1)]))
        self.lets(True, self.CASES, told)
        self.lets(False, self.CASES, *odd_things(), list(told), told[:3], (*told, None), told[::-1],
                  ("never", *told[2:]), ("never", *told[1:]), ("at", *told[2:]), ("At", *told[1:]), told[2], told[3],
                  ("at", 9, told[3], told[2]), (), ("at",), ("never",), ("never", [], []), ("at", 9, [], []))
        for way, item in within(told):
            for other in [None, True, False, 0, 1, 2, 3, 7, 9, 12, -1, 10 ** 9, 1.0, "", "at", "least", "apart", (), [],
                          [item], (item,), (0, 1), list(item) if isinstance(item, tuple) else tuple("ab"),
                          tuple(item) if isinstance(item, list) else None, *[item * 2 if isinstance(item, (list, tuple))
                                                                            else (item, item)]]:
                # Of wheels any from is right, as long as no number below it is one of all.
                is_from = way[0] == 2 and way[2:] == (0,) and type(other) is int and 0 <= other <= 9
                if repr(other) != repr(item):
                    self.lets(is_from, self.CASES, changed(told, way, other))

    def test_left_out_twice_and_exchanged(self):
        for cases in [self.CASES, [wheel(3, 0, 1), wheel(4, 2), wheel(5, 1, 3)], [late(5, 7, 3), wheel(4, 1, 2)]]:
            told = meeting(cases)
            self.lets(True, cases, told)
            for way, _ in within(told):
                *ahead, at = way
                thing = told
                for step in ahead:
                    thing = thing[step]
                self.lets(False, cases, changed(told, ahead, with_item(thing, at)))
                self.lets(False, cases, changed(told, ahead, with_item(thing, at, thing[at], thing[at])))
                if at > 0 and thing[at] != thing[at - 1]:
                    turned = with_item(with_item(thing, at, thing[at - 1]), at - 1, thing[at])
                    self.lets(False, cases, changed(told, ahead, turned))

    def test_true_is_no_number(self):
        cases = [wheel(2, 0), wheel(1, 0)]
        told = meeting(cases)
        self.assertEqual(told, ("at", 0, [(0, 2, (0,)), (0, 1, (0,))], [((0, 0), "least", 0)]))
        self.lets(True, cases, told)
        for way, item in within(told):
            if item in (0, 1) and not isinstance(item, bool):
                self.lets(False, cases, changed(told, way, bool(item)), changed(told, way, float(item)))

    def test_greater_froms_and_rounds(self):
        cases = [wheel(3, 1), late(5, 7, 3)]
        for first, many, first_there, many_there in itertools.product([0, 1, 5, 9, 20], [3, 6, 9], [7, 8, 12], [5, 10]):
            self.lets(True, cases, paper(cases, [(first, many), (first_there, many_there)]))
        for marks in [[(0, 2), (7, 5)], [(0, 4), (7, 5)], [(0, 3), (6, 5)], [(0, 3), (7, 4)], [(0, 3), (7, 6)],
                      [(0, 3), (0, 5)], [(0, 3), (6, 10)]]:
            self.lets(False, cases, paper(cases, marks))
        # The least ones aren't the only ones, but rests, rows and numbers are told by those that are.
        least, told = meeting(cases), paper(cases, [(2, 6), (7, 5)])
        self.lets(False, cases, (*told[:2], least[2], told[3]), (*told[:2], told[2], least[3]))
        self.assertEqual(told[1], least[1])

    def test_together_at_most_longest(self):
        case = [wheel(4, 1)]
        for first, many in [(996, 4), (0, 1000), (500, 500), (992, 8), (4, 996)]:
            self.lets(True, case, paper(case, [(first, many)]))
        for first, many in [(997, 4), (0, 1004), (1000, 4), (4, 1000), (1, 1000), (10 ** 30, 4), (0, 4 * 10 ** 30)]:
            rests = (1,) if many == 4 else tuple(range(1, min(many, 2000), 4))
            number = (first + 2) // 4 * 4 + 1
            self.lets(False, case, ("at", 1, [(first, many, rests)], []),
                      ("at", number, [(first, many, rests)], [((1,), "least", number)]))
        for first, many in [(-1, 4), (0, 0), (0, -4), (-4, 4), (2, -4), (-1000, 4)]:
            self.lets(False, case, ("at", 1, [(first, many, (1,))], [((1,), "least", 1)]),
                      ("at", 1, [(first, many, ())], []), ("never", [(first, many, ())], []))

    def test_the_rests_by_h_count(self):
        work = Work("ab", [Band("a", 3, pace=1)], [Press(("a", 0), ("a", 1), KEEP2, rhythm="x-")])
        case = [(work, ("baa",), 0, [(("a", 1), "b")])]
        self.assertEqual(meeting(case)[2], [(0, 6, (1, 4))])
        self.lets(True, case, meeting(case), paper(case, [(5, 12)]))
        # The rows come again behind 3, too, but a beat that has another rest comes then.
        self.lets(False, case, ("at", 1, [(0, 3, (1,))], [((1,), "least", 1)]))

    def test_any_two_that_part(self):
        cases = [wheel(2, 0), wheel(4, 1), wheel(6, 2), wheel(2, 1)]
        told = meeting(cases)
        rests, word, i, j = told[2][0]
        self.assertEqual((word, i, j), ("apart", 0, 1))
        rounds = [many for _, many, _ in told[1]]
        pairs = apart_in(rests, rounds)
        self.assertEqual(pairs, [(0, 1), (0, 3), (1, 2), (2, 3)])
        for one, other in itertools.product(range(-1, 5), repeat=2):
            self.lets((one, other) in pairs, cases, (*told[:2], [(rests, "apart", one, other)]))
        for one, other in [(False, True), (0, True), (0, 1.0), ("0", "1"), (None, 1), ([0], [1])]:
            self.lets(False, cases, (*told[:2], [(rests, "apart", one, other)]))
        self.lets(False, cases, (*told[:2], [(rests, "least", 0)]), ("at", 0, told[1], [(rests, "least", 0)]),
                  (*told[:2], [(rests, "apart", 0, 1, 3)]), (*told[:2], [(rests, "apart", 0)]))

    def test_numbers_that_are_none(self):
        cases = [wheel(3, 1), wheel(5, 2)]
        self.assertEqual(meeting(cases)[1], 7)
        parts, row = meeting(cases)[2], (1, 2)
        for number in [6, 8, 22, -8, 0]:
            self.lets(False, cases, ("at", number, parts, [(row, "least", number)]),
                      ("at", number, parts, [(row, "least", 7)]),
                      ("at", 7, parts, [(row, "least", number)]))
        early = [late(5, 7, 3), wheel(4, 3)]
        told = meeting(early)
        self.assertEqual((told[1], told[3]), (3, []))
        for number in [2, 4, 7, 23]:
            self.lets(False, early, ("at", number, told[2], []))
        self.lets(False, early, ("at", 3, told[2], [((3, 3), "least", 23)]),
                  ("at", 23, told[2], [((3, 3), "least", 23)]), ("never", told[2], []))

    def test_more_than_most_rows(self):
        # The answer is refused, the look isn't; a paper of all these rows is one.
        cases = [wheel(11, *range(10)), wheel(9, *range(6)), wheel(5, *range(4))]
        self.refused(TooMany, {"many": 200}, meeting, cases)
        more = paper(cases, [(0, 11), (0, 9), (0, 5)])
        self.assertEqual(len(more[3]), 240)
        self.lets(True, cases, more)
        self.lets(False, cases, (*more[:3], more[3][:-1]), (*more[:3], more[3][:200]), (*more[:3], []))
        # Far more rows than anybody writes are never gone through.
        wide = [wheel(12, *range(11))] * 4
        parts = [(0, 996, tuple(rest for rest in range(996) if rest % 12 < 11))] * 4
        self.lets(False, wide, ("at", 0, parts, []), ("never", parts, []), ("at", 0, parts, [((0,) * 4, "least", 0)]))

    def test_cases_without_a_round(self):
        long = (wheels(LONG), one_marked(wheels(LONG)), 0, [])
        self.refused(TooLong, {"beats": 1000}, meeting, [long])
        rows = [((number,), "least", number) for number in range(1000)]
        self.lets(False, [long], None, ("at", 0, [(0, 1000, tuple(range(1000)))], rows), ("never", [(0, 1, ())], []))
        self.lets(False, [wheel(3, 1), long], meeting([wheel(3, 1)]))
        # From 11 and a round of 990 are too much together, whatever is told.
        course, rows = tail_course(11)
        self.lets(False, [(course.work(), rows, 0, [(("a", 0), "b"), (("a", 0), "a")])], ("never", [(11, 990, ())], []))
        course, rows = tail_course(10)
        self.lets(True, [(course.work(), rows, 0, [(("a", 0), "b"), (("a", 0), "a")])], ("never", [(10, 990, ())], []))

    def test_begins(self):
        work = Work("ab", [Band("a", 1), Band("b", 1)], [Press(("b", 0), ("a", 0), ("ba", "ba"), rhythm="x--")])
        cases = [(work, ("a", "a"), 0, [(("a", 0), "b")]), (work, ("a", "a"), 1, [(("a", 0), "b")])]
        told = meeting(cases)
        self.lets(True, cases, told)
        self.lets(False, cases[::-1], told)

    def test_refused_ahead_of_the_thing(self):
        good = wheel(3, 1)
        work, rows, begin, wish = good
        for thing in [None, meeting([good]), meeting([good, good])]:
            self.refused(NoRows, {"number": 0}, shows_meeting, [good, (work, ("ba",), begin, wish)], thing)
            self.refused(NoRows, {"number": -1}, shows_meeting,
                         [(work, ["baa"], begin, [(("b", 0), "b")]), good], thing)
            self.refused(NoPlace, {"place": ("a", 3)}, shows_meeting,
                         [good, (work, rows, begin, wish + [(("a", 3), "b")])], thing)
            self.refused(NoPlace, {"place": ("b", 0)}, shows_meeting,
                         [(work, rows, begin, [(("b", 0), "b")]), (work, None, begin, wish)], thing)

    def test_by_places_and_by_names(self):
        told = meeting(self.CASES)
        kept = [list(each) for each in told[2:]]
        self.assertIs(shows_meeting(cases=self.CASES, thing=told), True)
        self.assertEqual([list(each) for each in told[2:]], kept)
        self.assertEqual(self.CASES, [wheel(4, 1), wheel(6, 2, 3, 4)])
        self.lets(False, [wheel(4, 1)], told)
        self.lets(False, self.CASES * 2, told)


if __name__ == "__main__":
    unittest.main()
