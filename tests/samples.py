"""What the tests share: odd things, sample works, and beats done the slow way."""

import random
import unittest

from bandprint.bands import Band, Press, Work
from bandprint.courses import Course
from bandprint.errors import NoBand

KEEP2 = ("ab", "ab")
FLIP2 = ("ab", "ba")
COPY2 = ("aa", "bb")
FAR = 10 ** 60
MIXED_ROWS = ("abcab", "cba", "bbca", "c")


class Refusals(unittest.TestCase):
    """Test cases that look at what is refused."""

    def refused(self, error, fields, call, *places, **names):
        """That a call is refused with just this class, and fields of just these worths and kinds."""
        with self.assertRaises(error) as caught:
            call(*places, **names)
        self.assertIs(type(caught.exception), error)
        for name, worth in fields.items():
            told = getattr(caught.exception, name)
            self.assertEqual(told, worth)
            # True equals 1, and 1.0 too: their texts don't, at whatever depth.
            self.assertEqual(repr(told), repr(worth))


def nested(kind, depth):
    """Things within one another."""
    thing = kind()
    for _ in range(depth - 1):
        thing = kind([thing]) if kind is not dict else {"a": thing}
    return thing


def small_work():
    """Two bands and a press between them."""
    return Work("ab", (Band("one", 3, pace=1), Band("two", 4, pace=-1)),
                (Press(("one", 0), ("two", 0), FLIP2, rhythm="x"),))


def odd_things():
    """Things that are no text of small letters, no whole number, no tuple of such, nor a list of bands or so."""
    return [
        None, True, False, 1.0, 0.5, "", "A", "1", "a b", "a\n", "\u00e9", "-", {}, {"a": 1}, {1: ("a", 0)},
        [], ["a"], [1], [("a", 0)], ("a",), (1,), (None,), ((),), ([],), ({},), (True, False), ("a", 0, 0, 0, 0),
        nested(tuple, 10), nested(list, 10), nested(dict, 10),
        Band("a", 1), Press(("a", 0), ("a", 0), KEEP2), small_work(), Course(small_work()), NoBand("name"),
    ]


def mixed_work():
    """Three signs, four bands, six presses of several rhythms, two of them at one place and one reading itself."""
    bands = [Band("ab", 5, pace=2), Band("c", 3, pace=-1), Band("d", 4), Band("e", 1, pace=7)]
    presses = [
        Press(("ab", 0), ("c", 1), ("abc", "bca", "cab"), rhythm="x-"),
        Press(("c", 1), ("d", 3), ("aaa", "abc", "ccc"), rhythm="xx-"),
        Press(("d", 3), ("d", 3), ("bac", "bca", "acb"), rhythm="-x"),
        Press(("e", 0), ("ab", 4), ("abc", "bac", "acb")),
        Press(("c", 2), ("ab", 4), ("cab", "abc", "bca"), rhythm="--x"),
        Press(("ab", 2), ("e", 0), ("abc", "bcc", "aab"), rhythm="x"),
    ]
    return Work("abc", bands, presses)


def mixed_course():
    """The mixed work with puts and lifts near one another."""
    return Course(mixed_work(), puts=[(4, ("e", 0), "a"), (9, ("ab", 2), "c")], lifts=[(5, 3, "up"), (8, 3, "down")])


def wheels(longs, *, signs="ab"):
    """A work of bands without presses that each go on by one."""
    return Work(signs, [Band("abcdef"[at], long, pace=1) for at, long in enumerate(longs)])


def one_marked(work):
    """Rows of the last sign at each band's first place and the first sign elsewhere."""
    signs = work.signs()
    return tuple(signs[-1] + signs[0] * (band.long() - 1) for band in work.bands())


def slow_up(course, press, beat):
    """Whether the last lift of a press below a beat has it up."""
    lifts = sorted((told, at) for at, (told, number, _) in enumerate(course.lifts()) if number == press and told < beat)
    return bool(lifts) and course.lifts()[lifts[-1][1]][2] == "up"


def slow_beat(course, rows, beat):
    """Rows behind a beat, place by place."""
    work = course.work()
    stands = {}
    for band, text in zip(work.bands(), rows):
        for at, sign in enumerate(text):
            stands[(band.called(), (at + band.pace()) % band.long())] = sign
    for number, press in enumerate(work.presses()):
        if press.rhythm()[(beat - 1) % len(press.rhythm())] == "-" or slow_up(course, number, beat):
            continue
        above = work.signs().find(stands[press.above()])
        below = work.signs().find(stands[press.below()])
        stands[press.below()] = press.table()[above][below]
    for told, place, sign in course.puts():
        if told == beat:
            stands[place] = sign
    return tuple("".join(stands[(band.called(), at)] for at in range(band.long())) for band in work.bands())


def slow_run(course, rows, beats, begin=0):
    """Rows at begin and behind each of so many beats."""
    told = [rows]
    for beat in range(begin + 1, begin + beats + 1):
        told.append(slow_beat(course, told[-1], beat))
    return told


def some_work(chance, *, longs=(1, 2, 3, 4), presses=4, signs=("ab", "abc", "acxz")):
    """A work by chance, of at most three bands."""
    told = chance.choice(signs)
    bands = [Band(name, chance.choice(longs), pace=chance.choice([0, 1, -1, 2, -5, 10 ** 12]))
             for name in ["a", "bc", "defghijk"][:chance.randint(1, 3)]]
    places = [(band.called(), at) for band in bands for at in range(band.long())]
    made = []
    for _ in range(chance.randint(0, presses)):
        table = tuple("".join(chance.choice(told) for _ in told) for _ in told)
        made.append(Press(chance.choice(places), chance.choice(places), table,
                          rhythm=chance.choice(["x", "-", "x-", "-x", "xx-", "--x", "x-x-"])))
    return Work(told, bands, made)


def some_rows(chance, work):
    """Rows of a work by chance."""
    return tuple("".join(chance.choice(work.signs()) for _ in range(band.long())) for band in work.bands())


def some_course(chance, work, *, first=0, last=12):
    """A course of a work by chance, its deeds from first to last."""
    puts = [(chance.randint(max(first, 1), last), chance.choice(work.places()), chance.choice(work.signs()))
            for _ in range(chance.randint(0, 5))]
    lifts = [(chance.randint(first, last), chance.randrange(len(work.presses())), chance.choice(["up", "down"]))
             for _ in range(chance.randint(0, 6) if work.presses() else 0)]
    return Course(work, puts=puts, lifts=lifts)


def chances(many, seed):
    """So many sources of chance, the same ones each time."""
    return [random.Random(seed * 1000 + at) for at in range(many)]


def slow_walk(course, standing, start, beats):
    """Standings from start on by single beats, at most so many, and (first, again) of the first two alike, or None."""
    common = course.work().common()
    told, stands = [standing], [(standing, start % common)]
    for beat in range(start + 1, start + beats + 1):
        standing = tuple(slow_beat(course, rows, beat) for rows in standing)
        stand = (standing, beat % common)
        if stand in stands:
            return told, (stands.index(stand), len(stands))
        told.append(standing)
        stands.append(stand)
    return told, None


def slow_far(course, rows, beats, begin=0):
    """Rows behind many beats, or of how many beats the first stretch is that is too long."""
    last = begin + beats
    stops = sorted({deed[0] for deed in course.puts() + course.lifts() if begin < deed[0] < last} | {last})
    for stop in stops:
        many = stop - begin
        if many > 1000:
            told, alike = slow_walk(course, (rows,), begin, 1000)
            if alike is None:
                return many
            first, again = alike
            begin = begin + first + (many - first - 1) // (again - first) * (again - first)
            rows = told[first][0]
        while begin < stop:
            begin += 1
            rows = slow_beat(course, rows, begin)
    return rows


def slow_seek(course, standing, begin, is_met):
    """What first_seen tells, or of how many beats the first stretch is that is too long."""
    start = begin
    for stop in [*sorted({deed[0] for deed in course.puts() + course.lifts() if deed[0] > begin}), None]:
        many = 1000 if stop is None else min(stop - start - 1, 1000)
        told, alike = slow_walk(course, standing, start, many)
        for at, each in enumerate(told):
            if is_met(each):
                return ("at", start + at - begin)
        if stop is None:
            return 1000 if alike is None else ("never", start - begin + alike[0], alike[1] - alike[0])
        if alike is None and stop - start > 1000:
            return stop - start
        standing = tuple(slow_far(course, rows, stop - start, start) for rows in standing)
        start = stop
    return None


def tail_course(tail):
    """A course and rows that come to a round of 990 behind 10 or 11 beats: a sign that is wiped out once."""
    rhythm, at = {10: ("x--", 0), 11: ("-x-", 9)}[tail]
    bands = [Band("a", 9, pace=1), Band("b", 10, pace=1), Band("c", 11, pace=1), Band("d", 10, pace=1)]
    work = Work("ab", bands, [Press(("d", 0), ("d", 0), ("aa", "aa"), rhythm=rhythm)])
    last = "".join("b" if number == at else "a" for number in range(10))
    return Course(work), (*one_marked(work)[:3], last)
