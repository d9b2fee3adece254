"""Sightings and looks: which ones are such, and what a run really shows of them."""

from bandprint.beats import run
from bandprint.errors import NoLook, NoSight
from bandprint.rows import sign_at
from bandprint.signs import DEEPEST, is_listed, is_sign, is_within

_MOST_SIGHTINGS = 30


def is_look(work, begin, thing):
    """Whether a thing, of anything, is a tuple (beat, place) that may be looked at."""
    if not isinstance(thing, tuple) or len(thing) != 2:
        return False
    return is_within(thing[0], begin, begin + DEEPEST) and work.has_place(thing[1])


def is_sighting(work, begin, thing):
    """Whether a thing, of anything, is a tuple (beat, place, sign) that may be seen."""
    if not isinstance(thing, tuple) or len(thing) != 3:
        return False
    return is_look(work, begin, thing[:2]) and is_sign(work.signs(), thing[2])


def need_sightings(work, begin, sightings):
    """Refuse what is no list or tuple of sightings, or too many."""
    if not is_listed(sightings) or len(sightings) > _MOST_SIGHTINGS:
        raise NoSight(-1)
    for number, sighting in enumerate(sightings):
        if not is_sighting(work, begin, sighting):
            raise NoSight(number)


def need_look(work, begin, look):
    """Refuse what is no look."""
    if not is_look(work, begin, look):
        raise NoLook(look)


def last_beat(begin, sightings):
    """The last beat of sightings or looks, begin where there are none."""
    return max([sighting[0] for sighting in sightings], default=begin)


def sign_shown(course, rows, look, begin):
    """The sign that a run of rows that stand at begin shows at a look."""
    beat, place = look
    return sign_at(course.work(), run(course, rows, beat - begin, begin=begin)[-1], place)


def shows_all(course, rows, sightings, begin):
    """Whether a run of rows that stand at begin shows all sightings."""
    told = run(course, rows, last_beat(begin, sightings) - begin, begin=begin)
    return all([sign_at(course.work(), told[beat - begin], place) == sign for beat, place, sign in sightings])
