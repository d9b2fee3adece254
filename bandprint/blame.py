"""Blame: a few of the sightings that can't be together, and what shows it."""

from bandprint.boxes import boxes, first_rows
from bandprint.needs import plan_for
from bandprint.rows import are_rows
from bandprint.sights import need_sightings, shows_all
from bandprint.signs import is_within
from bandprint.treelooks import lets_tree_by
from bandprint.trees import tree_by


def without(things, at):
    """A list without what stands at a number."""
    return things[:at] + things[at + 1:]


def blame(course, sightings, *, begin=0):
    """None where some beginning shows all sightings, else (numbers, tree, rows)."""
    need_sightings(course.work(), begin, sightings)
    work = course.work()
    plan = plan_for(course, begin, sightings)
    tree = tree_by(plan, list(sightings))
    if boxes(work, tree):
        return None
    numbers = list(range(len(sightings)))
    rows = []
    for at in range(len(sightings) - 1, -1, -1):
        others = without(numbers, at)
        told = tree_by(plan, [sightings[number] for number in others])
        found = boxes(work, told)
        if found:
            # What shows all the others of by now shows those that are left of them in the end, too.
            rows.append(first_rows(work, found))
        else:
            numbers = others
            tree = told
    return (numbers, tree, rows[::-1])


def are_numbers(thing, many):
    """Whether a thing, of anything, is a list of numbers below many, rising."""
    if not isinstance(thing, list) or not all([is_within(number, 0, many - 1) for number in thing]):
        return False
    return all([thing[at - 1] < thing[at] for at in range(1, len(thing))])


def is_blame(plan, sightings, thing):
    """Whether a thing, of anything, shows that some of a list of sightings can't be together."""
    if not isinstance(thing, tuple) or len(thing) != 3 or not are_numbers(thing[0], len(sightings)):
        return False
    numbers, tree, rows = thing
    told = [sightings[number] for number in numbers]
    if not isinstance(rows, list) or len(rows) != len(told) or not all([are_rows(plan.work(), each) for each in rows]):
        return False
    if not lets_tree_by(plan, told, tree) or boxes(plan.work(), tree):
        return False
    shown = [shows_all(plan.course(), each, without(told, at), plan.start()) for at, each in enumerate(rows)]
    return all(shown)


def shows_blame(course, sightings, thing, *, begin=0):
    """Whether a thing, of anything, is such a tuple, of whatever numbers; None is none."""
    need_sightings(course.work(), begin, sightings)
    return is_blame(plan_for(course, begin, sightings), list(sightings), thing)
