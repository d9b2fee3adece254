"""A look at trees: whether a thing, whoever wrote it, parts all beginnings by what they show."""

from bandprint.cases import steps_of
from bandprint.needs import plan_for
from bandprint.nodes import ends_so, leaves_of
from bandprint.sights import need_sightings
from bandprint.signs import is_within
from bandprint.trees import sight_of


def is_clash(node, many):
    """Whether a leaf, of anything, names one of so many sightings as that which isn't shown."""
    return isinstance(node, tuple) and len(node) == 2 and node[0] == "clashes" and is_within(node[1], 0, many - 1)


def lets_tree_by(plan, sightings, thing):
    """Whether a thing, of anything, is a tree of cases for a list of sightings, as they are without asking."""
    leaves = leaves_of(plan.work(), thing)
    if leaves is None:
        return False
    sights = [sight_of(plan, number, sighting) for number, sighting in enumerate(sightings)]
    steps = steps_of(plan, 0, sights)
    alone = [steps_of(plan, 0, [sight]) for sight in sights]
    for node, box in leaves:
        needed = steps
        if is_clash(node, len(sights)):
            needed = alone[node[1]]
        elif node != ("fits",):
            return False
        if not ends_so(box, 1, needed, node):
            return False
    return True


def shows_tree(course, sightings, thing, *, begin=0):
    """Whether a thing, of anything, is a tree of cases for sightings."""
    need_sightings(course.work(), begin, sightings)
    return lets_tree_by(plan_for(course, begin, sightings), list(sightings), thing)
