"""Works laid beside one another, a course in parts that don't touch, and a band wound several times."""

from bandprint.bands import Band, Press, Work, band_called, is_long
from bandprint.courses import Course
from bandprint.errors import NoChange, NoWork
from bandprint.signs import is_whole
from bandprint.turns import band_numbers


def beside(one, other):
    """One work of two works of the same signs, the first one's bands and presses ahead of the other's."""
    if one.signs() != other.signs():
        raise NoWork("signs")
    return Work(one.signs(), one.bands() + other.bands(), one.presses() + other.presses())


def part_numbers(work):
    """For each band, by its name, the number of the first band of its part."""
    found = band_numbers(work)
    for press in work.presses():
        one, other = found[press.above()[0]], found[press.below()[0]]
        for name in list(found):
            if found[name] == max(one, other):
                found[name] = min(one, other)
    return found


def part_course(course, bands, presses):
    """The course of a part alone, its bands and presses told by their numbers in the whole."""
    work = course.work()
    part = Work(work.signs(), [work.bands()[number] for number in bands],
                [work.presses()[number] for number in presses])
    puts = [(beat, place, sign) for beat, place, sign in course.puts() if part.has_place(place)]
    lifts = [(beat, presses.index(press), word) for beat, press, word in course.lifts() if press in presses]
    return Course(part, puts=puts, lifts=lifts)


def apart(course):
    """A list, by their first bands, of the parts that no press binds: (bands, presses, course)."""
    work = course.work()
    firsts = part_numbers(work)
    told = []
    for first in sorted(set(list(firsts.values()))):
        bands = tuple([at for at, band in enumerate(work.bands()) if firsts[band.called()] == first])
        presses = tuple([at for at, press in enumerate(work.presses()) if firsts[press.below()[0]] == first])
        told.append((bands, presses, part_course(course, bands, presses)))
    return told


def place_wound(place, name, on):
    """A place so many places on, where it is on the band of this name."""
    if place[0] != name:
        return place
    return (name, place[1] + on)


def press_wound(press, band, times):
    """The presses, in order, that a press becomes by a band that is wound so many times."""
    name = band.called()
    if press.below()[0] != name:
        return [press]
    return [Press(place_wound(press.above(), name, turn * band.long()),
                  place_wound(press.below(), name, turn * band.long()), press.table(), rhythm=press.rhythm())
            for turn in range(times)]


def wound(work, name, times):
    """The work with a band so many times as long, and its presses as often."""
    if name not in [band.called() for band in work.bands()]:
        raise NoChange(name)
    elder = band_called(work, name)
    if not is_whole(times) or not is_long(elder.long() * times):
        raise NoWork("bands")
    bands = work.bands()
    bands[bands.index(elder)] = Band(name, elder.long() * times, pace=elder.pace())
    presses = [each for press in work.presses() for each in press_wound(press, elder, times)]
    return Work(work.signs(), bands, presses)
