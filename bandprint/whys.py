"""Whys: where the sign at a place comes from, which presses turned it since, and what these read."""

from bandprint.beats import run, signs_printed
from bandprint.traces import need_trace, presses_ahead, sign_of_origin, sign_turned, trace


def sign_read(course, rows, beat, press):
    """The sign that a press reads in a beat, of the rows ahead of this beat."""
    work = course.work()
    signs = signs_printed(work, rows, presses_ahead(course, beat, press))
    return signs[work.place_in(work.presses()[press].above())]


def why(course, rows, place, beat, *, begin=0, ahead=None):
    """(origin, prints, sign) of what stands at a place behind a beat, or in it ahead of a press."""
    need_trace(course, rows, place, beat, begin, ahead)
    origin, prints = trace(course, rows, place, beat, begin, ahead)
    stands = run(course, rows, beat - begin, begin=begin)
    told = [(at, press, sign_read(course, stands[at - 1 - begin], at, press)) for at, press in prints]
    sign = sign_of_origin(origin)
    for _, press, read in told:
        sign = sign_turned(course.work(), press, read, sign)
    return (origin, told, sign)
