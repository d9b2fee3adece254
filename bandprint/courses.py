"""Courses: works, with the signs that hands lay down and the presses that they lift between the beats."""

from bandprint.bands import Work
from bandprint.errors import NoCourse, NoPress
from bandprint.signs import LAST_BEAT, is_listed, is_sign, is_within

_MOST_DEEDS = 12


def is_put_beat(thing):
    """Whether a thing is a beat at which a sign may be laid."""
    return is_within(thing, 1, LAST_BEAT)


def is_lift_beat(thing):
    """Whether a thing is a beat at which a press may be lifted."""
    return is_within(thing, 0, LAST_BEAT)


def is_lift_word(thing):
    """Whether a thing is one of the words of a lift."""
    return thing == "up" or thing == "down"


def is_put(work, thing):
    """Whether a thing is a tuple (beat, place, sign) of the work, its beat from 1 on."""
    if not isinstance(thing, tuple) or len(thing) != 3:
        return False
    beat, place, sign = thing
    return is_put_beat(beat) and work.has_place(place) and is_sign(work.signs(), sign)


def is_lift(work, thing):
    """Whether a thing is a tuple (beat, press's number, word) of the work, its beat from 0 on."""
    if not isinstance(thing, tuple) or len(thing) != 3:
        return False
    beat, press, word = thing
    return is_lift_beat(beat) and work.has_press(press) and is_lift_word(word)


class Course:
    """A work, the signs that are laid on it and the lifts of its presses."""

    def __init__(self, work, *, puts=(), lifts=()):
        if not isinstance(work, Work):
            raise NoCourse("work")
        if not is_listed(puts) or not all([is_put(work, put) for put in puts]):
            raise NoCourse("puts")
        if not is_listed(lifts) or not all([is_lift(work, lift) for lift in lifts]):
            raise NoCourse("lifts")
        if len(puts) + len(lifts) > _MOST_DEEDS:
            raise NoCourse("lifts")
        self._work = work
        self._puts = tuple(puts)
        self._lifts = tuple(lifts)

    def __eq__(self, other):
        return (isinstance(other, Course) and self._work == other._work
                and self._puts == other._puts and self._lifts == other._lifts)

    def work(self):
        """The work."""
        return self._work

    def puts(self):
        """A list of the puts as they were told."""
        return list(self._puts)

    def lifts(self):
        """A list of the lifts as they were told."""
        return list(self._lifts)

    def works(self, press, beat):
        """Whether a press works at a beat, from 1 on."""
        if not self._work.has_press(press):
            raise NoPress("press")
        rhythm = self._work.presses()[press].rhythm()
        return rhythm[(beat - 1) % len(rhythm)] == "x" and not self._is_up(press, beat)

    def _is_up(self, press, beat):
        """Whether the last lift of a press at a beat below this one has lifted it."""
        last = 0
        last_word = "down"
        for told, number, word in self._lifts:
            if number == press and last <= told < beat:
                last = told
                last_word = word
        return last_word == "up"

    def laid(self, beat):
        """A list of (place, sign) that is laid at a beat, in the order of places."""
        found = {}
        for told, place, sign in self._puts:
            if told == beat:
                found[place] = sign
        return [(place, found[place]) for place in self._work.places() if place in found]

    def deed_beats(self):
        """The beats of all puts and lifts, rising, each once."""
        return sorted(set([deed[0] for deed in self._puts + self._lifts]))
