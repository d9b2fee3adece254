"""Single beats: bands go round, presses print, hands lay signs down."""

from bandprint.rows import need_rows, rows_of


def presses_at(course, beat):
    """The numbers of the presses that work at a beat, from 1 on."""
    return [number for number in range(len(course.work().presses())) if course.works(number, beat)]


def gone_round(text, many):
    """A band's text with what stood at x at the rest of x + many."""
    cut = (-many) % len(text)
    return text[cut:] + text[:cut]


def printed(work, press, signs):
    """The sign that a press makes of the one below it; signs are one for each place in order."""
    above = signs[work.place_in(press.above())]
    below = signs[work.place_in(press.below())]
    return press.table()[work.signs().index(above)][work.signs().index(below)]


def signs_printed(work, rows, numbers):
    """What becomes of rows when the bands have moved and the presses of these numbers have printed, a list of signs."""
    presses = work.presses()
    moved = [gone_round(text, band.pace()) for band, text in zip(work.bands(), rows)]
    signs = list("".join(moved))
    for number in numbers:
        signs[work.place_in(presses[number].below())] = printed(work, presses[number], signs)
    return signs


def beat_done(course, rows, beat):
    """Rows behind a beat, from 1 on, of rows behind the one ahead of it, as they are without asking."""
    work = course.work()
    signs = signs_printed(work, rows, presses_at(course, beat))
    for place, sign in course.laid(beat):
        signs[work.place_in(place)] = sign
    return rows_of(work, signs)


def next_rows(course, rows, beat):
    """Rows behind beat + 1 of rows behind beat."""
    need_rows(course.work(), rows)
    return beat_done(course, rows, beat + 1)


def run(course, rows, beats, *, begin=0):
    """A list of the rows at begin and behind each of so many beats."""
    need_rows(course.work(), rows)
    told = [rows]
    for beat in range(begin + 1, begin + beats + 1):
        told.append(beat_done(course, told[-1], beat))
    return told
