"""Fewest puts: how little has to be laid otherwise at begin for a wish to stand so many beats behind."""

from bandprint.boxes import boxes
from bandprint.errors import NoSight
from bandprint.rows import need_rows, rows_of
from bandprint.signs import is_listed
from bandprint.trees import tree_of


def part_sighting(beat, part):
    """A part of a wish as a sighting behind a beat; of what is no part, what is no sighting."""
    if not isinstance(part, tuple):
        return (beat, part)
    return (beat, *part)


def wish_sightings(wish, beats, *, begin=0):
    """The sightings of a wish so many beats behind begin, in the order of its parts."""
    if not is_listed(wish):
        raise NoSight(-1)
    return [part_sighting(begin + beats, part) for part in wish]


def prices_of(work, prices):
    """The prices, 1 for each place where none are told."""
    if prices is None:
        return tuple([1 for _ in work.places()])
    return prices


def lacks(work, box, rows, *, prices=None):
    """The prices of all places whose sign in the rows isn't among the box's signs there, together."""
    need_rows(work, rows)
    told = prices_of(work, prices)
    return sum([price for price, sign, signs in zip(told, "".join(rows), box) if sign not in signs])


def nearest_rows(work, box, rows):
    """The rows in a box that are like these wherever they may be."""
    return rows_of(work, [sign if sign in signs else signs[0] for sign, signs in zip("".join(rows), box)])


def fewest_puts(course, rows, wish, beats, *, begin=0, prices=None):
    """("puts", price, rows, tree), the least price and rows that cost it, or ("never", tree)."""
    work = course.work()
    need_rows(work, rows)
    tree = tree_of(course, wish_sightings(wish, beats, begin=begin), begin=begin)
    found = boxes(work, tree)
    if not found:
        return ("never", tree)
    costs = [lacks(work, box, rows, prices=prices) for box in found]
    price = min(costs)
    return ("puts", price, nearest_rows(work, found[costs.index(price)], rows), tree)
