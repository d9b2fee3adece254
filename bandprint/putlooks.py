"""A look at papers of puts: whether a thing, whoever wrote it, tells the fewest signs to be laid otherwise."""

from bandprint.boxes import boxes, has
from bandprint.needs import plan_for
from bandprint.puts import lacks, wish_sightings
from bandprint.rows import are_rows, need_rows
from bandprint.sights import need_sightings
from bandprint.signs import is_whole
from bandprint.treelooks import lets_tree_by


def is_fewest(work, found, rows, prices, price, other):
    """Whether things, of anything, are the least price of rows that lie in the found boxes, and such rows."""
    if not is_whole(price) or not are_rows(work, other) or not has(work, found, other):
        return False
    # Rows are a box of one sign at each place.
    if lacks(work, "".join(other), rows, prices=prices) != price:
        return False
    return all([lacks(work, box, rows, prices=prices) >= price for box in found])


def shows_puts(course, rows, wish, beats, thing, *, begin=0, prices=None):
    """Whether a thing, of anything, is such a paper of rows and a wish so many beats behind begin."""
    work = course.work()
    need_rows(work, rows)
    sightings = wish_sightings(wish, beats, begin=begin)
    need_sightings(work, begin, sightings)
    if not isinstance(thing, tuple) or len(thing) not in (2, 4):
        return False
    if thing[0] != ("never" if len(thing) == 2 else "puts"):
        return False
    if not lets_tree_by(plan_for(course, begin, sightings), sightings, thing[-1]):
        return False
    found = boxes(work, thing[-1])
    if len(thing) == 2:
        return not found
    return is_fewest(work, found, rows, prices, thing[1], thing[2])
