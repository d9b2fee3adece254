"""A look at whys: whether a thing, whoever wrote it, is one by all but the signs that were read. It runs nothing."""

from bandprint.signs import is_just, is_sign
from bandprint.traces import need_trace, reads_itself, sign_of_origin, sign_turned, trace


def are_prints(work, prints, thing):
    """Whether a thing, of anything, is a list of prints, (beat, press), each with a sign that was read."""
    if not isinstance(thing, list) or len(thing) != len(prints):
        return False
    for told, due in zip(thing, prints):
        if not isinstance(told, tuple) or len(told) != 3 or not is_just(told[:2], due):
            return False
        if not is_sign(work.signs(), told[2]):
            return False
    return True


def sign_by(work, sign, prints):
    """What prints make of a sign, or None where one that reads what it turns has read another sign."""
    for _, press, read in prints:
        if reads_itself(work, press) and read != sign:
            return None
        sign = sign_turned(work, press, read, sign)
    return sign


def shows_why(course, rows, place, beat, thing, *, begin=0, ahead=None):
    """Whether a thing, of anything, is a why of a place at a beat by all but the signs that were read."""
    need_trace(course, rows, place, beat, begin, ahead)
    origin, prints = trace(course, rows, place, beat, begin, ahead)
    if not isinstance(thing, tuple) or len(thing) != 3 or not is_just(thing[0], origin):
        return False
    if not are_prints(course.work(), prints, thing[1]):
        return False
    sign = sign_by(course.work(), sign_of_origin(origin), thing[1])
    return sign is not None and is_just(thing[2], sign)
