"""When a wish first stands, when it stands at all, and when two rows are told apart."""

from bandprint.beats import beat_done
from bandprint.rounds import behind, round_of
from bandprint.rows import need_rows
from bandprint.stretches import seek


def numbered(work, wish):
    """A wish with the places' numbers for the places."""
    return [(work.place_in(place), sign) for place, sign in wish]


def has_all(rows, parts):
    """Whether rows have all signs of a numbered wish."""
    signs = "".join(rows)
    return all([signs[number] == sign for number, sign in parts])


def is_met(work, rows, wish):
    """Whether rows have all that a wish names."""
    need_rows(work, rows)
    return has_all(rows, numbered(work, wish))


def first_seen(course, rows, wish, *, begin=0):
    """("at", beats), the least number behind which the wish is met, or ("never", from, round)."""
    need_rows(course.work(), rows)
    parts = numbered(course.work(), wish)
    return seek(course, (rows,), begin, lambda standing: has_all(standing[0], parts))


def when_seen(course, rows, wish, *, begin=0):
    """(from, round, beats): beats are those of one round from from on behind which the wish is met."""
    need_rows(course.work(), rows)
    parts = numbered(course.work(), wish)
    first, many = round_of(course, rows, begin=begin)
    rows = behind(course, rows, first, begin=begin)
    beats = []
    for at in range(first, first + many):
        if has_all(rows, parts):
            beats.append(at)
        rows = beat_done(course, rows, begin + at + 1)
    return (first, many, beats)


def are_apart(one, other, numbers):
    """Whether two rows have unlike signs at some place of these numbers."""
    signs = "".join(one)
    others = "".join(other)
    return any([signs[number] != others[number] for number in numbers])


def told_apart(course, one, other, windows, *, begin=0):
    """("at", beats), the least number behind which a window shows unlike signs in both, or ("never",)."""
    work = course.work()
    need_rows(work, one)
    need_rows(work, other)
    numbers = [work.place_in(place) for place in windows]
    told = seek(course, (one, other), begin, lambda pair: are_apart(pair[0], pair[1], numbers))
    if told[0] == "never":
        return ("never",)
    return told
