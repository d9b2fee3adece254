"""Rows behind any number of beats, and the round that a course comes to."""

from bandprint.rows import need_rows
from bandprint.stretches import across, deeds_behind, seek


def never_met(standing):
    """What no standing meets."""
    return False


def behind(course, rows, beats, *, begin=0):
    """Rows behind so many beats from begin on, told by stretches."""
    need_rows(course.work(), rows)
    last = begin + beats
    start = begin
    standing = (rows,)
    for stop in [*[beat for beat in deeds_behind(course, begin) if beat < last], last]:
        standing, _ = across(course, standing, start, stop, never_met)
        start = stop
    return standing[0]


def round_of(course, rows, *, begin=0):
    """(from, round), counted in beats from begin, at or behind the last put and lift behind begin."""
    need_rows(course.work(), rows)
    _, first, many = seek(course, (rows,), begin, never_met)
    return (first, many)
