"""Whether a place of the beginning matters to a look."""

from bandprint.nodes import leaves_of
from bandprint.rows import are_rows, rows_of
from bandprint.shown import shown, shows_shown
from bandprint.sights import need_look, sign_shown


def common_sign(signs, others):
    """The first sign that two texts have in common, or None."""
    for sign in signs:
        if sign in others:
            return sign
    return None


def pair_in(work, number, box, other):
    """Rows of two boxes that are alike but at the place of a number, or None; no rows lie in both boxes."""
    one, there = [], []
    for at, (signs, others) in enumerate(zip(box, other)):
        common = common_sign(signs, others)
        if at != number and common is None:
            return None
        one.append(signs[0] if at == number else common)
        there.append(others[0] if at == number else common)
    return (rows_of(work, one), rows_of(work, there))


def pair_by(work, number, leaves):
    """Two rows that are alike but at the place of a number and lie in leaves with unlike signs, or None."""
    for at, (node, box) in enumerate(leaves):
        for other, box_there in leaves[:at]:
            if node != other:
                pair = pair_in(work, number, box_there, box)
                if pair is not None:
                    return pair
    return None


def need_place_and_look(course, place, look, begin):
    """Refuse what is no place, then what is no look."""
    course.work().place_in(place)
    need_look(course.work(), begin, look)


def matters(course, place, look, *, begin=0):
    """("yes", rows, rows), alike but at the place, that show unlike signs at a look, or ("no", tree)."""
    need_place_and_look(course, place, look, begin)
    work = course.work()
    tree = shown(course, look, begin=begin)
    pair = pair_by(work, work.place_in(place), leaves_of(work, tree))
    if pair is None:
        return ("no", tree)
    return ("yes", *pair)


def are_alike_but(work, number, one, other):
    """Whether two rows are alike but, perhaps, at the place of a number."""
    signs, others = "".join(one), "".join(other)
    return all([at == number or signs[at] == others[at] for at in range(len(work))])


def is_yes(course, number, look, one, other, begin):
    """Whether two things, of anything, are rows by whose runs the place of a number matters to a look."""
    work = course.work()
    if not are_rows(work, one) or not are_rows(work, other) or not are_alike_but(work, number, one, other):
        return False
    return sign_shown(course, one, look, begin) != sign_shown(course, other, look, begin)


def shows_matters(course, place, look, thing, *, begin=0):
    """Whether a thing, of anything, is such an answer."""
    need_place_and_look(course, place, look, begin)
    work = course.work()
    number = work.place_in(place)
    if not isinstance(thing, tuple) or not 2 <= len(thing) <= 3:
        return False
    if len(thing) == 3:
        return thing[0] == "yes" and is_yes(course, number, look, thing[1], thing[2], begin)
    if thing[0] != "no" or not shows_shown(course, look, thing[1], begin=begin):
        return False
    return pair_by(work, number, leaves_of(work, thing[1])) is None
