"""Where what stands on a band comes to, and when it passes a press."""

from math import lcm

from bandprint.bands import band_called
from bandprint.errors import NoPress, NoSide


def where(work, place, beats):
    """The place to which what stands at this one at beat 0 has come behind so many beats, of any sign."""
    work.place_in(place)
    name, number = place
    band = band_called(work, name)
    return (name, (number + band.pace() * beats) % band.long())


def side_of(press, side):
    """The place of a press's side."""
    if side == "above":
        return press.above()
    if side == "below":
        return press.below()
    raise NoSide(side)


def passes(work, press, side, place):
    """(round, rests): the beats from 1 to round at which what stood at the place at beat 0 passes the side."""
    if not work.has_press(press):
        raise NoPress("press")
    stop = side_of(work.presses()[press], side)
    work.place_in(place)
    rhythm = work.presses()[press].rhythm()
    common = lcm(band_called(work, place[0]).long(), len(rhythm))
    rests = [beat for beat in range(1, common + 1)
             if rhythm[(beat - 1) % len(rhythm)] == "x" and where(work, place, beat) == stop]
    return (common, rests)


def how_many_passes(work, press, side, place, *, upto):
    """How many beats from 1 to upto there are at which it passes."""
    common, rests = passes(work, press, side, place)
    rounds, rest = divmod(max(upto, 0), common)
    return rounds * len(rests) + len([beat for beat in rests if beat <= rest])


def next_pass(work, press, side, place, *, behind=0):
    """The first beat behind this one at which it passes, or None where it never does."""
    common, rests = passes(work, press, side, place)
    if not rests:
        return None
    rounds, rest = divmod(max(behind, 0), common)
    for beat in rests:
        if beat > rest:
            return rounds * common + beat
    return (rounds + 1) * common + rests[0]
