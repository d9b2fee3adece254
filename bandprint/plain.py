"""Plain forms: a work as it runs, without what changes nothing."""

from bandprint.bands import Band, Press, Work
from bandprint.maps import press_maps, together


def least_rhythm(rhythm):
    """The least text that makes a rhythm by being repeated whole."""
    for long in range(1, len(rhythm)):
        if rhythm[:long] * (len(rhythm) // long) == rhythm:
            return rhythm[:long]
    return rhythm


def with_least_rhythm(press):
    """A press with its least rhythm."""
    return Press(press.above(), press.below(), press.table(), rhythm=least_rhythm(press.rhythm()))


def is_idle(signs, press):
    """Whether a press never works or changes nothing."""
    return "x" not in press.rhythm() or all([one == signs for one in press_maps(press)])


def may_be_joined(one, other):
    """Whether two neighbours work as one press does."""
    return (one.above() == other.above() and one.below() == other.below() and one.above() != one.below()
            and one.rhythm() == other.rhythm())


def joined(signs, one, other):
    """The press that does what two neighbours do."""
    table = tuple([together(signs, first, second) for first, second in zip(one.table(), other.table())])
    return Press(one.above(), one.below(), table, rhythm=one.rhythm())


def first_idle(signs, parts):
    """The number of the first press that may be left out, or None."""
    for at, (press, _) in enumerate(parts):
        if is_idle(signs, press):
            return at
    return None


def first_pair(parts):
    """The number of the first press that may be joined to the one behind it, or None."""
    for at in range(len(parts) - 1):
        if may_be_joined(parts[at][0], parts[at + 1][0]):
            return at
    return None


def plainer(signs, parts):
    """The presses, each with the numbers of those that it is made of, when there is no more to leave out or join."""
    while True:
        at = first_idle(signs, parts)
        if at is not None:
            parts = parts[:at] + parts[at + 1:]
            continue
        at = first_pair(parts)
        if at is None:
            return parts
        (one, numbers), (other, more) = parts[at], parts[at + 1]
        parts = parts[:at] + [(joined(signs, one, other), numbers + more)] + parts[at + 2:]


def plain(work):
    """(work, rows): the plain form, and for each of its presses the numbers of those that it is made of."""
    parts = [(with_least_rhythm(press), (number,)) for number, press in enumerate(work.presses())]
    parts = plainer(work.signs(), parts)
    bands = [Band(band.called(), band.long(), pace=band.pace() % band.long()) for band in work.bands()]
    return (Work(work.signs(), bands, [press for press, _ in parts]), [numbers for _, numbers in parts])
