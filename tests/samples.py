"""What the tests share: odd things, sample works, and beats done the slow way."""

import random
import unittest

from bandprint.bands import Band, Press, Work
from bandprint.courses import Course
from bandprint.errors import NoBand

KEEP2 = ("ab", "ab")
FLIP2 = ("ab", "ba")
COPY2 = ("aa", "bb")
FAR = 10 ** 60


class Refusals(unittest.TestCase):
    """Test cases that look at what is refused."""

    def refused(self, error, fields, call, *places, **names):
        """That a call is refused with just this class, and fields of just these worths and kinds."""
        with self.assertRaises(error) as caught:
            call(*places, **names)
        self.assertIs(type(caught.exception), error)
        for name, worth in fields.items():
            told = getattr(caught.exception, name)
            self.assertEqual(told, worth)
            # True equals 1, and 1.0 too: their texts don't, at whatever depth.
            self.assertEqual(repr(told), repr(worth))


def nested(kind, depth):
    """Things within one another."""
    thing = kind()
    for _ in range(depth - 1):
        thing = kind([thing]) if kind is not dict else {"a": thing}
    return thing


def small_work():
    """Two bands and a press between them."""
    return Work("ab", (Band("one", 3, pace=1), Band("two", 4, pace=-1)),
                (Press(("one", 0), ("two", 0), FLIP2, rhythm="x"),))


def odd_things():
    """Things that are no text of small letters, no whole number, no tuple of such, nor a list of bands or so."""
    return [
        None, True, False, 1.0, 0.5, "", "A", "1", "a b", "a\n", "\u00e9", "-", {}, {"a": 1}, {1: ("a", 0)},
        [], ["a"], [1], [("a", 0)], ("a",), (1,), (None,), ((),), ([],), ({},), (True, False), ("a", 0, 0, 0, 0),
        nested(tuple, 10), nested(list, 10), nested(dict, 10),
        Band("a", 1), Press(("a", 0), ("a", 0), KEEP2), small_work(), Course(small_work()), NoBand("name"),
    ]


def mixed_work():
    """Three signs, four bands, six presses of several rhythms, two of them at one place and one reading itself."""
    bands = [Band("ab", 5, pace=2), Band("c", 3, pace=-1), Band("d", 4), Band("e", 1, pace=7)]
    presses = [
        Press(("ab", 0), ("c", 1), ("abc", "bca", "cab"), rhythm="x-"),
        Press(("c", 1), ("d", 3), ("aaa", "abc", "ccc"), rhythm="xx-"),
        Press(("d", 3), ("d", 3), ("bac", "bca", "acb"), rhythm="-x"),
        Press(("e", 0), ("ab", 4), ("abc", "bac", "acb")),
        Press(("c", 2), ("ab", 4), ("cab", "abc", "bca"), rhythm="--x"),
        Press(("ab", 2), ("e", 0), ("abc", "bcc", "aab"), rhythm="x"),
    ]
    return Work("abc", bands, presses)


def wheels(longs, *, signs="ab"):
    """A work of bands without presses that each go on by one."""
    return Work(signs, [Band("abcdef"[at], long, pace=1) for at, long in enumerate(longs)])


def one_marked(work):
    """Rows of the last sign at each band's first place and the first sign elsewhere."""
    signs = work.signs()
    return tuple(signs[-1] + signs[0] * (band.long() - 1) for band in work.bands())


def slow_up(course, press, beat):
    """Whether the last lift of a press below a beat has it up."""
    lifts = sorted((told, at) for at, (told, number, _) in enumerate(course.lifts()) if number == press and told < beat)
    return bool(lifts) and course.lifts()[lifts[-1][1]][2] == "up"


def slow_beat(course, rows, beat):
    """Rows behind a beat, place by place."""
    work = course.work()
    stands = {}
    for band, text in zip(work.bands(), rows):
        for at, sign in enumerate(text):
            stands[(band.called(), (at + band.pace()) % band.long())] = sign
    for number, press in enumerate(work.presses()):
        if press.rhythm()[(beat - 1) % len(press.rhythm())] == "-" or slow_up(course, number, beat):
            continue
        above = work.signs().find(stands[press.above()])
        below = work.signs().find(stands[press.below()])
        stands[press.below()] = press.table()[above][below]
    for told, place, sign in course.puts():
        if told == beat:
            stands[place] = sign
    return tuple("".join(stands[(band.called(), at)] for at in range(band.long())) for band in work.bands())


def slow_run(course, rows, beats, begin=0):
    """Rows at begin and behind each of so many beats."""
    told = [rows]
    for beat in range(begin + 1, begin + beats + 1):
        told.append(slow_beat(course, told[-1], beat))
    return told


def slow_round(course, rows, begin=0):
    """(from, round) of a course whose deeds are near begin, by looking back at all stands."""
    last = max([begin] + [deed[0] for deed in course.puts() + course.lifts()])
    for _ in range(last - begin):
        begin += 1
        rows = slow_beat(course, rows, begin)
    seen = []
    start = begin
    while (rows, begin % course.work().common()) not in seen:
        seen.append((rows, begin % course.work().common()))
        begin += 1
        rows = slow_beat(course, rows, begin)
    first = seen.index((rows, begin % course.work().common()))
    return first, len(seen) - first, start


def some_work(chance, *, longs=(1, 2, 3, 4), presses=4, signs=("ab", "abc", "acxz")):
    """A work by chance, of at most three bands."""
    told = chance.choice(signs)
    bands = [Band(name, chance.choice(longs), pace=chance.choice([0, 1, -1, 2, -5, 10 ** 12]))
             for name in ["a", "bc", "defghijk"][:chance.randint(1, 3)]]
    places = [(band.called(), at) for band in bands for at in range(band.long())]
    made = []
    for _ in range(chance.randint(0, presses)):
        table = tuple("".join(chance.choice(told) for _ in told) for _ in told)
        made.append(Press(chance.choice(places), chance.choice(places), table,
                          rhythm=chance.choice(["x", "-", "x-", "-x", "xx-", "--x", "x-x-"])))
    return Work(told, bands, made)


def some_rows(chance, work):
    """Rows of a work by chance."""
    return tuple("".join(chance.choice(work.signs()) for _ in range(band.long())) for band in work.bands())


def some_course(chance, work, *, first=0, last=12):
    """A course of a work by chance, its deeds from first to last."""
    puts = [(chance.randint(max(first, 1), last), chance.choice(work.places()), chance.choice(work.signs()))
            for _ in range(chance.randint(0, 5))]
    lifts = [(chance.randint(first, last), chance.randrange(len(work.presses())), chance.choice(["up", "down"]))
             for _ in range(chance.randint(0, 6) if work.presses() else 0)]
    return Course(work, puts=puts, lifts=lifts)


def chances(many, seed):
    """So many sources of chance, the same ones each time."""
    return [random.Random(seed * 1000 + at) for at in range(many)]
