"""Changes of a work: a band turned, mirrored, named anew, two bands swapped, the signs exchanged."""

from bandprint.bands import Band, Press, Work, band_called, is_pace
from bandprint.beats import gone_round
from bandprint.courses import Course
from bandprint.errors import NoChange
from bandprint.rows import need_rows
from bandprint.signs import is_name


def band_numbers(work):
    """The bands' numbers by their names."""
    return {band.called(): number for number, band in enumerate(work.bands())}


def is_change_of_band(work, change):
    """Whether a tuple of a word and a band's name, and what is behind it, is a change."""
    names = list(band_numbers(work))
    if change[1] not in names:
        return False
    if len(change) == 2:
        return change[0] == "mirror"
    if change[0] == "turn":
        return is_pace(change[2])
    if change[0] == "name":
        return is_name(change[2]) and change[2] not in names
    return change[0] == "swap" and change[2] in names and change[1] != change[2]


def is_change(work, thing):
    """Whether a thing, of anything, is a change of the work."""
    if not isinstance(thing, tuple) or not 2 <= len(thing) <= 3:
        return False
    if thing[0] != "exchange":
        return is_change_of_band(work, thing)
    return len(thing) == 2 and isinstance(thing[1], str) and sorted(thing[1]) == list(work.signs())


def need_change(work, change):
    """Refuse what is no change of the work."""
    if not is_change(work, change):
        raise NoChange(change)


def place_changed(work, place, change):
    """A place of the work where the change brings it."""
    name, number = place
    if change[1] != name:
        return place
    if change[0] == "turn":
        return (name, (number + change[2]) % band_called(work, name).long())
    if change[0] == "mirror":
        return (name, band_called(work, name).long() - 1 - number)
    if change[0] == "name":
        return (change[2], number)
    return place


def exchanged(signs, text, change):
    """A text of signs with what an exchange makes of each; any other change leaves it."""
    if change[0] != "exchange":
        return text
    return "".join([change[1][signs.index(sign)] for sign in text])


def swapped(work, things, change):
    """A list of things, one for each band in order, as the bands' order is behind the change."""
    things = list(things)
    if change[0] == "swap":
        numbers = band_numbers(work)
        one, other = numbers[change[1]], numbers[change[2]]
        things[one], things[other] = things[other], things[one]
    return things


def band_changed(band, change):
    """A band as the change makes it, its place in the order aside."""
    if change[1] != band.called():
        return band
    if change[0] == "mirror":
        return Band(band.called(), band.long(), pace=-band.pace())
    if change[0] == "name":
        return Band(change[2], band.long(), pace=band.pace())
    return band


def table_changed(signs, table, change):
    """A table as the change makes it: of what the signs become it makes what its signs become."""
    if change[0] != "exchange":
        return table
    elders = [change[1].index(sign) for sign in signs]
    texts = ["".join([table[above][below] for below in elders]) for above in elders]
    return tuple([exchanged(signs, text, change) for text in texts])


def press_changed(work, press, change):
    """A press as the change makes it."""
    above = place_changed(work, press.above(), change)
    below = place_changed(work, press.below(), change)
    return Press(above, below, table_changed(work.signs(), press.table(), change), rhythm=press.rhythm())


def text_changed(work, band, text, change):
    """A band's text as the change makes it, its place in the order aside."""
    text = exchanged(work.signs(), text, change)
    if change[1] != band.called():
        return text
    if change[0] == "turn":
        return gone_round(text, change[2])
    if change[0] == "mirror":
        return text[::-1]
    return text


def changed_work(work, change):
    """The work with bands and presses changed."""
    need_change(work, change)
    bands = swapped(work, [band_changed(band, change) for band in work.bands()], change)
    return Work(work.signs(), bands, [press_changed(work, press, change) for press in work.presses()])


def changed_course(course, change):
    """The course of the changed work with its puts changed."""
    work = course.work()
    other = changed_work(work, change)
    puts = [(beat, place_changed(work, place, change), exchanged(work.signs(), sign, change))
            for beat, place, sign in course.puts()]
    return Course(other, puts=puts, lifts=course.lifts())


def changed_rows(work, rows, change):
    """The rows of the changed work that these become."""
    need_change(work, change)
    need_rows(work, rows)
    texts = [text_changed(work, band, text, change) for band, text in zip(work.bands(), rows)]
    return tuple(swapped(work, texts, change))


def changed_place(work, place, change):
    """The place of the changed work that this one becomes."""
    need_change(work, change)
    work.place_in(place)
    return place_changed(work, place, change)


def undoing(work, change):
    """The change that undoes a change of this work."""
    need_change(work, change)
    if change[0] == "turn":
        return ("turn", change[1], -change[2])
    if change[0] == "exchange":
        return ("exchange", "".join([work.signs()[change[1].index(sign)] for sign in work.signs()]))
    if change[0] == "name":
        return ("name", change[2], change[1])
    return change
