"""Boxes of a tree: for each leaf that fits the signs that the beginning's places may have."""

from bandprint.nodes import leaves_of
from bandprint.rows import need_rows, rows_of


def boxes(work, tree):
    """A list of the boxes of a tree's leaves that fit, tuples of texts, one for each place of the work in order."""
    return [tuple(box) for node, box in leaves_of(work, tree) if node == ("fits",)]


def how_many(found):
    """How many beginnings lie in the boxes."""
    many = 0
    for box in found:
        here = 1
        for signs in box:
            here = here * len(signs)
        many += here
    return many


def lies_in(box, rows):
    """Whether rows lie in a box."""
    return all([sign in signs for sign, signs in zip("".join(rows), box)])


def has(work, found, rows):
    """Whether rows lie in one of the boxes."""
    need_rows(work, rows)
    return any([lies_in(box, rows) for box in found])


def first_rows(work, found):
    """The first of all rows that lie in the boxes, or None."""
    return min([rows_of(work, [signs[0] for signs in box]) for box in found], default=None)


def sure(work, found):
    """A list of (place, sign) of the places that have one sign in all boxes, the same, in order."""
    told = []
    for number, place in enumerate(work.places()):
        texts = sorted(set([box[number] for box in found]))
        if len(texts) == 1 and len(texts[0]) == 1:
            told.append((place, texts[0]))
    return told
