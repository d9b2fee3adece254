"""Works that turn each sign one to one, so that each stand comes from one alone, and can be led back."""

from bandprint.bands import Band, Press, Work
from bandprint.beats import next_rows
from bandprint.courses import Course
from bandprint.errors import Early, Lossy
from bandprint.maps import is_one_to_one, press_maps, sources, turned_map
from bandprint.passes import where
from bandprint.rounds import behind
from bandprint.rows import need_rows, rows_of, with_sign


def is_lossy(signs, press):
    """Whether a press has an x in its rhythm and doesn't turn one to one."""
    return "x" in press.rhythm() and not all([is_one_to_one(signs, one) for one in press_maps(press)])


def first_lossy(work):
    """The number of the first press by which two rows may come to the same, or None."""
    for number, press in enumerate(work.presses()):
        if is_lossy(work.signs(), press):
            return number
    return None


def need_lossless(work):
    """Refuse a work that isn't lossless."""
    number = first_lossy(work)
    if number is not None:
        raise Lossy(number)


def is_lossless(work):
    """Whether no two rows come to the same by a beat of the work."""
    return first_lossy(work) is None


def signs_of_one(signs, press):
    """(above, one, other): of a lossy press a sign above by which two unlike signs below become one."""
    for above, turn in zip(signs, press_maps(press)):
        for heir in signs:
            elders = sources(signs, turn, heir)
            if len(elders) > 1:
                return (above, elders[0], elders[1])
    return None


def two_of_one(work):
    """(begin, one, other, heir): two unlike rows that the next beat leads to the same, or None."""
    number = first_lossy(work)
    if number is None:
        return None
    signs = work.signs()
    press = work.presses()[number]
    begin = press.rhythm().find("x")
    above, one, other = signs_of_one(signs, press)
    rows = with_sign(work, rows_of(work, [signs[0] for _ in work.places()]), press.above(), above)
    # The presses ahead of this one turn one to one, so what it finds can be led back through them.
    ahead = Work(signs, work.bands(), work.presses()[:number])
    found = [back(ahead, with_sign(work, rows, press.below(), sign), 1, begin=begin + 1) for sign in (one, other)]
    return (begin, *found, next_rows(Course(work), found[0], begin))


def back(work, rows, beats, *, begin):
    """The rows so many beats ahead of rows behind begin, of a lossless work that ran from beat 0 on."""
    need_rows(work, rows)
    need_lossless(work)
    if beats > begin:
        raise Early(begin)
    return behind(Course(turned_back(work, begin)), rows, beats)


def table_back(signs, press):
    """The table that turns back what a press turns; of a press that never works, its own."""
    if "x" not in press.rhythm():
        return press.table()
    return tuple([turned_map(signs, one) for one in press_maps(press)])


def press_back(work, press, begin):
    """The press that undoes at each beat what this one did, from begin back."""
    rhythm = press.rhythm()
    marks = [rhythm[(begin - 1 - at) % len(rhythm)] for at in range(len(rhythm))]
    # Undone is ahead of the move back, but a press works behind its beat's move.
    return Press(where(work, press.above(), -1), where(work, press.below(), -1), table_back(work.signs(), press),
                 rhythm="".join(marks))


def turned_back(work, begin):
    """A lossless work that runs from rows behind begin to the rows that stood ahead of them, beat by beat."""
    need_lossless(work)
    bands = [Band(band.called(), band.long(), pace=-band.pace()) for band in work.bands()]
    return Work(work.signs(), bands, [press_back(work, press, begin) for press in work.presses()[::-1]])
