"""Several stands: the least number that all cases have, numbers by rests, the head start of one."""

import itertools
import math
import random
import unittest

from bandprint.bands import Band, Press, Work
from bandprint.courses import Course
from bandprint.errors import TooLong, TooMany
from bandprint.firsts import when_seen
from bandprint.meets import head_start, least_with, meeting
from tests.samples import (FAR, Refusals, chances, one_marked, slow_walk, some_rows, some_work, tail_course,
                           wheels)
from tests.test_firsts import LONG, NEVER, slow_met, some_wish


def wheel(long, *numbers, begin=0):
    """A case: a wheel of so many places that shows a mark behind these numbers of beats."""
    text = "".join("b" if -at % long in numbers else "a" for at in range(long))
    return (wheels((long,)), (text,), begin, [(("a", 0), "b")])


def late(long, first, number):
    """A case whose stands come again from first on, behind one sign that is wiped out, by a round of long."""
    # A mark goes from place 12 - first over a press at its band's end; another wheel turns beside it.
    bands = [Band("a", long, pace=1), Band("b", 12, pace=1)]
    work = Work("ab", bands, [Press(("b", 0), ("b", 0), ("aa", "aa"))])
    text = "".join("b" if at == (12 - first) % 12 else "a" for at in range(12))
    return (work, (wheel(long, number)[1][0], text), 0, [(("a", 0), "b")])


def slow_numbers(case):
    """(from, round, is_one) of a case, stand by stand."""
    work, rows, begin, wish = case
    told, alike = slow_walk(Course(work), (rows,), begin, 1000)
    if alike is None:
        return None
    first, many = alike[0], alike[1] - alike[0]
    met = [slow_met(work, each[0], wish) for each in told]
    return first, many, lambda number: met[number if number < first else first + (number - first) % many]


def slow_meeting(cases):
    """What meeting tells, number by number."""
    found = [slow_numbers(case) for case in cases]
    if None in found:
        return TooLong
    top = max(first for first, _, _ in found)
    parts = [(first, many, tuple(rest for rest in range(many)
                                 if is_one(top + (rest - top) % many))) for first, many, is_one in found]
    for number in range(top):
        if all(is_one(number) for _, _, is_one in found):
            return ("at", number, parts, [])
    choices = list(itertools.product(*[rests for _, _, rests in parts]))
    if len(choices) > 200:
        return TooMany
    rounds = [many for _, many, _ in parts]
    rows, leasts = [], []
    for rests in choices:
        unlike = [(i, j) for i in range(len(rests)) for j in range(i + 1, len(rests))
                  if (rests[i] - rests[j]) % math.gcd(rounds[i], rounds[j])]
        if unlike:
            rows.append((rests, "apart", *unlike[0]))
            continue
        number = next(number for number in range(top, top + math.lcm(*rounds))
                      if all(number % many == rest for rest, many in zip(rests, rounds)))
        rows.append((rests, "least", number))
        leasts.append(number)
    return ("at", min(leasts), parts, rows) if leasts else ("never", parts, rows)


def some_case(chance, longs=(1, 2, 3, 4)):
    """A case by chance."""
    if chance.random() < 0.6:
        long = chance.choice([4, 6, 8, 9, 10, 12])
        numbers = chance.sample(range(long), chance.randint(1, long - 1 if chance.random() < 0.3 else 2))
        return chance.choice([wheel(long, *numbers), wheel(long, *numbers),
                              late(long, chance.randint(1, 9), numbers[0])])
    work = some_work(chance, longs=longs, presses=2, signs=("ab",))
    wish = some_wish(chance, work)[:chance.choice([1, 1, 2, 3])]
    return (work, some_rows(chance, work), chance.choice([0, 0, 5, FAR // 10]), wish)


class Meeting(Refusals):

    def test_by_hand(self):
        self.assertEqual(meeting([wheel(3, 1), wheel(5, 2)]),
                         ("at", 7, [(0, 3, (1,)), (0, 5, (2,))], [((1, 2), "least", 7)]))
        self.assertEqual(meeting([wheel(3, 1), wheel(5, 2, 4)]), (
            "at", 4, [(0, 3, (1,)), (0, 5, (2, 4))], [((1, 2), "least", 7), ((1, 4), "least", 4)]))
        self.assertEqual(meeting((wheel(4, 1), wheel(6, 2, 3, 4))), (
            "at", 9, [(0, 4, (1,)), (0, 6, (2, 3, 4))],
            [((1, 2), "apart", 0, 1), ((1, 3), "least", 9), ((1, 4), "apart", 0, 1)]))
        self.assertEqual(meeting(cases=[wheel(4, 1, 3), wheel(6, 2, 4)])[0], "never")

    def test_one_case_and_four_and_one_twice(self):
        self.assertEqual(meeting([wheel(5, 3, 4)]),
                         ("at", 3, [(0, 5, (3, 4))], [((3,), "least", 3), ((4,), "least", 4)]))
        told = meeting([wheel(5, 3), wheel(7, 2), wheel(8, 5), wheel(9, 1)])
        number = least_with([3, 2, 5, 1], [5, 7, 8, 9])
        self.assertEqual(told, ("at", number, [(0, 5, (3,)), (0, 7, (2,)), (0, 8, (5,)), (0, 9, (1,))],
                                [((3, 2, 5, 1), "least", number)]))
        self.assertGreater(number, 1000)
        self.assertEqual([number % many for many in (5, 7, 8, 9)], [3, 2, 5, 1])
        twice = meeting([wheel(5, 3, 4)] * 2)
        self.assertEqual(twice[:2], ("at", 3))
        self.assertEqual([row[1:] for row in twice[3]], [("least", 3), ("apart", 0, 1), ("apart", 0, 1), ("least", 4)])

    def test_the_first_two_that_are_apart(self):
        told = meeting([wheel(5, 0), wheel(4, 1), wheel(6, 2), wheel(2, 0)])
        self.assertEqual(told, ("never", [(0, 5, (0,)), (0, 4, (1,)), (0, 6, (2,)), (0, 2, (0,))],
                                [((0, 1, 2, 0), "apart", 1, 2)]))
        told = meeting([wheel(2, 0), wheel(4, 1), wheel(6, 2), wheel(2, 1)])
        self.assertEqual(told[2], [((0, 1, 2, 1), "apart", 0, 1)])
        told = meeting([wheel(2, 0), wheel(4, 2), wheel(6, 2), wheel(2, 1)])
        self.assertEqual(told[2], [((0, 2, 2, 1), "apart", 0, 3)])

    def test_never(self):
        self.assertEqual(meeting([wheel(3, 1), wheel(5)]), ("never", [(0, 3, (1,)), (0, 1, ())], []))
        self.assertEqual(meeting([(*wheel(5)[:3], NEVER)]), ("never", [(0, 1, ())], []))

    def test_a_wish_of_none(self):
        work, rows, begin, _ = wheel(3, 1)
        self.assertEqual(meeting([(work, rows, begin, [])]), ("at", 0, [(0, 3, (0, 1, 2))], [
            ((0,), "least", 0), ((1,), "least", 1), ((2,), "least", 2)]))
        self.assertEqual(meeting([(work, rows, begin, ()), wheel(5, 4)])[:2], ("at", 4))

    def test_below_the_greatest_from(self):
        told = meeting([late(5, 7, 3), wheel(4, 3)])
        self.assertEqual(told[:2], ("at", 3))
        self.assertEqual(told[3], [])
        first, many, rests = told[2][0]
        self.assertEqual((first, many, rests), (7, 5, (3,)))
        self.assertEqual(told[2][1], (0, 4, (3,)))
        behind = meeting([late(5, 7, 3), wheel(4, 1)])
        self.assertEqual((behind[1], behind[3]), (13, [((3, 1), "least", 13)]))
        # Just at the greatest from it is by rests; just below it is by itself.
        self.assertEqual(meeting([late(9, 7, 7), wheel(7, 0)])[:2], ("at", 7))
        self.assertEqual(meeting([late(9, 7, 7), wheel(7, 0)])[3], [((7, 0), "least", 7)])
        self.assertEqual(meeting([late(9, 8, 7), wheel(7, 0)])[3], [])

    def test_a_number_below_from_alone(self):
        # A mark that is wiped out is there once.
        work = Work("ab", [Band("a", 5, pace=1)], [Press(("a", 0), ("a", 0), ("aa", "aa"))])
        once = (work, ("abaaa",), 0, [(("a", 3), "b")])
        self.assertEqual(meeting([once]), ("at", 2, [(4, 1, ())], []))
        self.assertEqual(meeting([once, wheel(3, 2)]), ("at", 2, [(4, 1, ()), (0, 3, (2,))], []))
        self.assertEqual(meeting([once, wheel(3, 1)]), ("never", [(4, 1, ()), (0, 3, (1,))], []))

    def test_rounds_far_beyond(self):
        def marked(longs, number):
            """A case of wheels whose marks stand together behind so many beats, and behind their round more."""
            rows = tuple("".join("b" if (at + number) % long == 0 else "a" for at in range(long)) for long in longs)
            return (wheels(longs), rows, 0, [((name, 0), "b") for name in "abc"[:len(longs)]])

        cases = [marked((7, 11, 12), 923), marked((5, 9, 11), 494), marked((8, 9, 7), 503)]
        told = meeting(cases)
        self.assertEqual([part[:2] for part in told[2]], [(0, 924), (0, 495), (0, 504)])
        number = math.lcm(924, 495, 504) - 1
        self.assertEqual(told[1:], (number, [(0, 924, (923,)), (0, 495, (494,)), (0, 504, (503,))],
                                    [((923, 494, 503), "least", number)]))
        told = meeting([marked((7, 11, 12), 923), marked((5, 9, 11), 0)])
        self.assertEqual((told[0], told[2]), ("never", [((923, 0), "apart", 0, 1)]))
        primes = [wheel(11, 10), (wheels((7, 9)), one_marked(wheels((7, 9))), 0, [(("a", 1), "b"), (("b", 1), "b")]),
                  wheel(5, 3), wheel(8, 6)]
        told = meeting(primes)
        number = told[1]
        self.assertGreater(number, 1000)
        self.assertEqual((number % 11, number % 63, number % 5, number % 8), (10, 1, 3, 6))
        self.assertLess(number, 11 * 63 * 5 * 8)

    def test_by_chance(self):
        words = []
        for chance in chances(250, 121):
            cases = [some_case(chance) for _ in range(chance.randint(1, 4))]
            due = slow_meeting(cases)
            if due is TooMany:
                self.refused(TooMany, {"many": 200}, meeting, cases)
                continue
            words.append((due[0], due[-1] == []))
            told = meeting(cases)
            self.assertEqual(told, due)
            self.assertEqual(meeting(tuple(cases)), due)
            self.assertTrue(all(type(rests) is tuple for _, _, rests in told[-2]))
        self.assertGreater(min(words.count((word, none)) for word in ["at", "never"] for none in [True, False]), 5)

    def test_begins_of_their_own(self):
        work = Work("ab", [Band("a", 1), Band("b", 1)], [Press(("b", 0), ("a", 0), ("ba", "ba"), rhythm="x--")])
        wish = [(("a", 0), "b")]
        self.assertEqual(meeting([(work, ("a", "a"), 0, wish)])[1:3], (1, [(0, 6, (1, 2, 3))]))
        self.assertEqual(meeting([(work, ("a", "a"), 1, wish)])[1:3], (3, [(0, 6, (3, 4, 5))]))
        self.assertEqual(meeting([(work, ("a", "a"), 0, wish), (work, ("a", "a"), 1, wish)])[1], 3)
        far = FAR // 10 // 3 * 3
        self.assertEqual(meeting([(work, ("a", "a"), far + 1, wish)])[1:3], (3, [(0, 6, (3, 4, 5))]))

    def test_too_long_ahead_of_too_many(self):
        long = (wheels(LONG), one_marked(wheels(LONG)), 0, [])
        many = (wheels((9, 8, 7)), one_marked(wheels((9, 8, 7))), 0, [])
        self.refused(TooMany, {"many": 200}, meeting, [many])
        self.refused(TooLong, {"beats": 1000}, meeting, [long])
        self.refused(TooLong, {"beats": 1000}, meeting, [many, long])
        self.refused(TooLong, {"beats": 1000}, meeting, [wheel(3), many, many, long])
        course, rows = tail_course(10)
        self.assertEqual(meeting([(course.work(), rows, 0, [(("d", 1), "b")])])[0], "at")
        course, rows = tail_course(11)
        self.refused(TooLong, {"beats": 1000}, meeting, [(course.work(), rows, 0, [])])

    def test_too_many_rows_of_rests(self):
        def full(long, many):
            return wheel(long, *range(many))
        ten, eight, five = full(11, 10), full(9, 8), full(7, 5)
        self.assertEqual(len(meeting([ten, full(9, 4), five])[3]), 200)
        self.refused(TooMany, {"many": 200}, meeting, [ten, full(8, 7), full(4, 3)])
        self.assertEqual(len(meeting([full(12, 8), five, five])[3]), 200)
        self.refused(TooMany, {"many": 200}, meeting, [eight, five, full(7, 6)])
        self.refused(TooMany, {"many": 200}, meeting, [full(4, 3)] * 2 + [full(6, 5)] * 2)
        # Where one has no rests there are no rows; where a number below is one of all none are asked.
        self.assertEqual(meeting([eight, eight, full(9, 0), eight])[0], "never")
        self.assertEqual(meeting([late(11, 5, 4), ten, full(12, 9), full(12, 9)])[1:4:2], (4, []))
        self.refused(TooMany, {"many": 200}, meeting, [late(11, 4, 4), ten, full(12, 9), full(12, 9)])

    def test_nothing_is_changed(self):
        cases = [wheel(3, 1), wheel(5, 2)]
        told = meeting(cases)
        told[2].clear()
        told[3].clear()
        self.assertEqual(cases, [wheel(3, 1), wheel(5, 2)])
        self.assertEqual(meeting(cases), ("at", 7, [(0, 3, (1,)), (0, 5, (2,))], [((1, 2), "least", 7)]))


class LeastWith(Refusals):

    def test_by_hand(self):
        self.assertEqual(least_with([2, 3, 2], [3, 5, 7]), 23)
        self.assertEqual(least_with((2, 3, 2), (3, 5, 7), least=24), 128)
        self.assertEqual(least_with([2, 3, 2], (3, 5, 7), least=23), 23)
        self.assertEqual(least_with(rests=[2, 3, 2], rounds=[3, 5, 7], least=0), 23)
        self.assertRaises(TypeError, least_with, [2], [3], 0)

    def test_from_nought_on(self):
        self.assertEqual(least_with([0], [5]), 0)
        self.assertEqual(least_with([0, 0], [5, 4]), 0)
        self.assertEqual(least_with([], []), 0)
        self.assertEqual(least_with([0], [5], least=1), 5)

    def test_what_is_no_rest(self):
        # No number leaves it.
        for rest in [5, 6, -1, 10]:
            self.assertIsNone(least_with([rest], [5]))
            self.assertIsNone(least_with([0, rest], [3, 5], least=FAR))

    def test_of_none(self):
        for least in [0, 1, 7, FAR]:
            self.assertEqual(least_with([], [], least=least), least)
            self.assertEqual(least_with((), (), least=least), least)

    def test_common_divisors(self):
        self.assertEqual(least_with([1, 3], [4, 6]), 9)
        self.assertIsNone(least_with([1, 2], [4, 6]))
        self.assertEqual(least_with([3, 3, 3], [4, 6, 12]), 3)
        self.assertEqual(least_with([3, 5, 11], [4, 6, 12]), 11)
        self.assertIsNone(least_with([3, 5, 10], [4, 6, 12]))
        self.assertIsNone(least_with([0, 1], [5, 5]))
        self.assertEqual(least_with([4, 4], [5, 5]), 4)
        self.assertEqual(least_with([0, 0], [1, 1], least=3), 3)

    def test_far(self):
        for least in [FAR, FAR + 1, FAR - 1, 10 ** 59 + 12345]:
            told = least_with([2, 3, 2], [3, 5, 7], least=least)
            self.assertEqual([told % 3, told % 5, told % 7], [2, 3, 2])
            self.assertTrue(least <= told < least + 105)
        rounds = [10 ** 30 + 57, 10 ** 30 + 1, 10 ** 29 + 3]
        rests = [12, 10 ** 30, 10 ** 29]
        told = least_with(rests, rounds, least=FAR)
        if told is None:
            self.assertTrue(any((rests[i] - rests[j]) % math.gcd(rounds[i], rounds[j])
                                for i in range(3) for j in range(i)))
        else:
            self.assertEqual([told % many for many in rounds], rests)
            self.assertTrue(FAR <= told < FAR + math.lcm(*rounds))

    def test_number_by_number(self):
        chance = random.Random(122)
        for _ in range(500):
            rounds = [chance.randint(1, 12) for _ in range(chance.randint(0, 4))]
            rests = [chance.randrange(many) for many in rounds]
            least = chance.choice([0, chance.randint(0, 1000)])
            due = next((number for number in range(least, least + math.lcm(*rounds))
                        if all(number % many == rest for rest, many in zip(rests, rounds))), None)
            self.assertEqual(least_with(rests, rounds, least=least), due)


class HeadStart(Refusals):

    def told(self, one, other):
        """The least d, looked at: n and n + d are numbers of the two."""
        found = head_start(one, other)
        if found == ("never",):
            return None
        word, ahead, number = found
        self.assertEqual(word, "ahead")
        for case, at in [(other, number), (one, number + ahead)]:
            self.assertTrue(slow_numbers(case)[2](at))
        return ahead

    def test_by_hand(self):
        self.assertEqual(self.told(wheel(7, 4), wheel(5, 1)), 0)
        self.assertEqual(self.told(wheel(6, 1), wheel(4, 2)), 1)
        self.assertEqual(self.told(wheel(6, 2), wheel(4, 1)), 1)
        self.assertEqual(self.told(wheel(6, 2), wheel(6, 1)), 1)
        self.assertEqual(self.told(wheel(6, 1), wheel(6, 2)), 5)
        self.assertEqual(self.told(wheel(6, 0, 3), wheel(6, 2)), 1)
        self.assertEqual(head_start(one=wheel(6, 1), other=wheel(6, 1))[:2], ("ahead", 0))

    def test_the_same_case_twice(self):
        for case in [wheel(7, 2, 5), late(5, 7, 3), wheel(1, 0)]:
            self.assertEqual(self.told(case, case), 0)

    def test_never(self):
        self.assertEqual(head_start(wheel(6), wheel(6, 2)), ("never",))
        self.assertEqual(head_start(wheel(6, 2), wheel(6)), ("never",))
        work = Work("ab", [Band("a", 9, pace=1)], [Press(("a", 0), ("a", 0), ("aa", "aa"))])
        def once(number):
            return (work, ("abaaaaaaa",), 0, [(("a", number + 1), "b")])
        self.assertEqual(head_start(once(3), once(4)), ("never",))
        self.assertEqual(head_start(once(4), once(3)), ("ahead", 1, 3))
        self.assertEqual(head_start(once(4), once(4)), ("ahead", 0, 4))
        self.assertEqual(head_start(once(7), once(0)), ("ahead", 7, 0))
        self.assertEqual(head_start(once(3), wheel(5, 4)), ("never",))
        self.assertEqual(head_start(once(5), wheel(5, 2)), ("ahead", 3, 2))
        self.assertEqual(head_start(wheel(5, 2), once(3)), ("ahead", 4, 3))
        # The first one's number at the end of its first round, and not a round ahead, when the other sign was there yet.
        case, rows, begin, wish = late(11, 9, 8)
        last = (case, rows, begin, wish + [(("b", 11), "a")])
        self.assertEqual(meeting([last])[1:3], (19, [(9, 11, (8,))]))
        self.assertEqual(head_start(last, once(3)), ("ahead", 16, 3))
        self.assertEqual(head_start(once(3), last), ("never",))

    def test_number_by_number(self):
        told = []
        for chance in chances(200, 123):
            one, other = some_case(chance, (3, 5, 6, 8)), some_case(chance, (3, 5, 6, 8))
            (first, many, is_one), (first_there, many_there, is_there) = slow_numbers(one), slow_numbers(other)
            last = max(first, first_there) + math.lcm(many, many_there)
            due = None
            for number in range(last):
                if is_there(number):
                    ahead = next((ahead for ahead in range(last + many) if is_one(number + ahead)), None)
                    if ahead is not None and (due is None or ahead < due):
                        due = ahead
            self.assertEqual(self.told(one, other), due)
            told.append(due)
        self.assertGreater(len([due for due in told if due]), 10)
        self.assertGreater(told.count(None), 10)

    def test_rounds_without_a_common_divisor(self):
        one = (wheels((11, 12, 7)), one_marked(wheels((11, 12, 7))), 0,
               [(("a", 0), "b"), (("b", 0), "b"), (("c", 0), "b")])
        other = (wheels((5, 9)), one_marked(wheels((5, 9))), 0, [(("a", 1), "b"), (("b", 1), "b")])
        self.assertEqual(self.told(one, other), (0 - 1) % math.gcd(924, 45))
        self.assertEqual(self.told(other, one), 1)
        self.assertEqual(self.told(one, wheel(5, 3)), 0)

    def test_too_long(self):
        long = (wheels(LONG), one_marked(wheels(LONG)), 0, [])
        self.refused(TooLong, {"beats": 1000}, head_start, long, wheel(5, 3))
        self.refused(TooLong, {"beats": 1000}, head_start, wheel(5, 3), long)
        self.refused(TooLong, {"beats": 1000}, head_start, wheel(5), long)

    def test_far_begins(self):
        one, other = wheel(7, 4, begin=FAR // 10), wheel(5, 1, begin=3)
        self.assertEqual(self.told(one, other), 0)
        self.assertEqual(when_seen(Course(one[0]), one[1], one[3], begin=one[2]), (0, 7, [4]))


if __name__ == "__main__":
    unittest.main()
