"""Elders: all rows that a work's beats lead to some rows, as boxes."""

from bandprint.beats import presses_at
from bandprint.cases import with_text
from bandprint.courses import Course
from bandprint.errors import TooMany
from bandprint.maps import press_maps
from bandprint.passes import where
from bandprint.rows import need_rows
from bandprint.signs import MOST


def led_back(signs, one, heirs):
    """The signs, rising, of which a map makes one of the heirs."""
    return "".join([sign for sign, heir in zip(signs, one) if heir in heirs])


def ahead_of_press(work, press, box):
    """The boxes, in order, of what a press leads into a box; a place of them may be without signs."""
    signs = work.signs()
    turns = press_maps(press)
    above, below = work.place_in(press.above()), work.place_in(press.below())
    if above == below:
        return [with_text(box, below, led_back(signs, turns[0], box[below]))]
    found = []
    for sign in box[above]:
        text = led_back(signs, turns[signs.index(sign)], box[below])
        found.append(with_text(with_text(box, above, sign), below, text))
    return found


def ahead_of_move(work, box):
    """The box of what a beat's move leads into a box."""
    return [box[work.place_in(where(work, place, 1))] for place in work.places()]


def elders(work, rows, beat, *, beats=1):
    """A list of the boxes of all rows behind beat - beats that come to these behind beat."""
    need_rows(work, rows)
    presses = work.presses()
    found = [list("".join(rows))]
    for at in range(beat, beat - beats, -1):
        for number in presses_at(Course(work), at)[::-1]:
            found = [elder for box in found for elder in ahead_of_press(work, presses[number], box)
                     if "" not in elder]
            if len(found) > MOST:
                raise TooMany(MOST)
        found = [ahead_of_move(work, box) for box in found]
    return [tuple(box) for box in found]
