"""Stretches: the beats from begin, or from a put or lift, to the next one, gone through until two stands are alike.

Rows of several runs may be gone on together: a standing is a tuple of the rows of each.
"""

from bandprint.beats import beat_done
from bandprint.errors import TooLong
from bandprint.signs import LONGEST


def deeds_behind(course, begin):
    """The beats of puts and lifts behind begin, rising."""
    return [beat for beat in course.deed_beats() if beat > begin]


def standing_behind(course, standing, beat):
    """The standing behind a beat, of that behind the one ahead of it."""
    return tuple([beat_done(course, rows, beat) for rows in standing])


def walk(course, standing, start, beats, is_met):
    """Go on from start by single beats, to the first standing that is met or alike an earlier one.

    Told are the unlike standings, the number of the one that came again or None, the number of the met one or None.
    """
    common = course.work().common()
    standings = []
    numbers = {}
    for at in range(beats + 1):
        if at > 0:
            standing = standing_behind(course, standing, start + at)
        stand = (standing, (start + at) % common)
        if stand in numbers:
            return standings, numbers[stand], None
        numbers[stand] = at
        standings.append(standing)
        if is_met(standing):
            return standings, None, at
    return standings, None, None


def across(course, standing, start, stop, is_met):
    """Go through a stretch: told are the standing behind its last beat, and the first met number or None.

    A number is told only of the standings ahead of the last beat: with what is laid then, the next stretch begins.
    """
    beats = stop - start
    if beats == 0:
        return standing, None
    standings, again, met = walk(course, standing, start, min(beats - 1, LONGEST), is_met)
    if met is not None:
        return standing, met
    if again is None and beats > LONGEST:
        raise TooLong(beats)
    at = beats - 1
    if again is not None:
        at = again + (at - again) % (len(standings) - again)
    return standing_behind(course, standings[at], stop), None


def last_round(course, standing, start, is_met):
    """Go on from start, behind which no deed comes: (from, round, the met number or None), counted from start."""
    standings, again, met = walk(course, standing, start, LONGEST, is_met)
    if met is not None:
        return None, None, met
    if again is None:
        raise TooLong(LONGEST)
    return again, len(standings) - again, None


def seek(course, standing, begin, is_met):
    """("at", beats), the least number behind which a standing is met, or ("never", from, round)."""
    start = begin
    for stop in deeds_behind(course, begin):
        standing, met = across(course, standing, start, stop, is_met)
        if met is not None:
            return ("at", start - begin + met)
        start = stop
    first, many, met = last_round(course, standing, start, is_met)
    if met is not None:
        return ("at", start - begin + met)
    return ("never", start - begin + first, many)
