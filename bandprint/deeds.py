"""Deeds of a hall: which things, of anything, are such."""

from bandprint.bands import Work
from bandprint.courses import is_lift_word
from bandprint.signs import LAST_BEAT, are_letters, is_name, is_place, is_within

_LAST_PRESS = 7


def names_work(deed):
    """Whether a work stands behind the name."""
    return isinstance(deed[2], Work)


def names_beginning(deed):
    """Whether a work's name, a begin and a tuple of texts stand behind the name."""
    _, _, work_name, begin, rows = deed
    if not is_name(work_name) or not is_within(begin, 0, LAST_BEAT) or not isinstance(rows, tuple):
        return False
    return all([isinstance(text, str) for text in rows])


def names_other(deed):
    """Whether another name stands behind the name."""
    return is_name(deed[2])


def names_beats(deed):
    """Whether a number of beats stands behind the name."""
    return is_within(deed[2], 0, LAST_BEAT)


def names_sign(deed):
    """Whether a place and one small letter stand behind the name."""
    return is_place(deed[2]) and are_letters(deed[3]) and len(deed[3]) == 1


def is_press_number(thing):
    """Whether a thing is the number of a press that some work may have."""
    return is_within(thing, 0, _LAST_PRESS)


def names_press(deed):
    """Whether a press's number and a word stand behind the name."""
    return is_press_number(deed[2]) and is_lift_word(deed[3])


def names_place(deed):
    """Whether a place stands behind the name."""
    return is_place(deed[2])


def names_nothing(deed):
    """Nothing stands behind the name."""
    return len(deed) == 2


LONGS = {"work": 3, "change": 3, "stand": 5, "twin": 3, "run": 3, "put": 4, "lift": 4, "look": 3, "drop": 2}
RESTS = {"work": names_work, "change": names_work, "stand": names_beginning, "twin": names_other, "run": names_beats,
         "put": names_sign, "lift": names_press, "look": names_place, "drop": names_nothing}


def is_deed(thing):
    """Whether a thing, of anything, is a deed: a tuple of a word, a name and what the word asks for."""
    if not isinstance(thing, tuple) or not thing or not isinstance(thing[0], str) or thing[0] not in LONGS:
        return False
    if len(thing) != LONGS[thing[0]] or not is_name(thing[1]):
        return False
    names_rest = RESTS[thing[0]]
    return names_rest(thing)
