"""Traces: what stands at a place led back by the paces, to where it was laid or stood at begin, without any signs read.

The presses of a beat, at the last beat, may be told up to one of them alone: then what stands is asked for ahead of
that press, and what is laid in this beat comes too late.
"""

from bandprint.beats import presses_at
from bandprint.errors import NoBeat, NoPress
from bandprint.passes import where
from bandprint.rows import need_rows, sign_at
from bandprint.signs import LONGEST, is_within


def need_trace(course, rows, place, beat, begin, ahead):
    """Refuse what isn't a place at a beat of a course, perhaps ahead of a press."""
    work = course.work()
    need_rows(work, rows)
    work.place_in(place)
    if not is_within(beat, begin, begin + LONGEST):
        raise NoBeat(beat)
    if ahead is not None and (beat == begin or not work.has_press(ahead)):
        raise NoPress("press")


def presses_ahead(course, beat, ahead):
    """The numbers of the presses that work at a beat, of all or of those ahead of one."""
    return [number for number in presses_at(course, beat) if ahead is None or number < ahead]


def presses_on(course, place, beat, ahead):
    """The numbers of the presses, of all or of those ahead of one, that turn what is at a place at a beat."""
    presses = course.work().presses()
    return [number for number in presses_ahead(course, beat, ahead) if presses[number].below() == place]


def laid_on(course, place, beat):
    """The sign that is laid at a place at a beat, or None."""
    for told, sign in course.laid(beat):
        if told == place:
            return sign
    return None


def trace(course, rows, place, beat, begin, ahead):
    """(origin, prints): where what stands there comes from, and the (beat, press) that turned it since, in order."""
    work = course.work()
    prints = []
    for at in range(beat, begin, -1):
        spot = where(work, place, at - beat)
        until = ahead if at == beat else None
        if until is None:
            sign = laid_on(course, spot, at)
            if sign is not None:
                return ("put", at, spot, sign), prints[::-1]
        prints.extend([(at, number) for number in presses_on(course, spot, at, until)[::-1]])
    spot = where(work, place, begin - beat)
    return ("begins", spot, sign_at(work, rows, spot)), prints[::-1]


def sign_of_origin(origin):
    """The sign that stood or was laid at an origin."""
    return origin[-1]


def sign_turned(work, press, read, sign):
    """What the press of a number makes of a sign below it, by the sign that it read."""
    return work.presses()[press].table()[work.signs().index(read)][work.signs().index(sign)]


def reads_itself(work, press):
    """Whether the press of a number has above and below at one place."""
    return work.presses()[press].above() == work.presses()[press].below()
