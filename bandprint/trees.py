"""Told trees: the cases by which all beginnings show sightings, or don't."""

from bandprint.cases import grown, steps_of
from bandprint.needs import plan_for
from bandprint.sights import need_sightings


def sight_of(plan, number, sighting):
    """A sighting of this number as a run by cases takes it."""
    beat, place, sign = sighting
    stood = plan.stood(beat, place)
    return (beat, stood, [("see", 0, stood, sign, number)])


def tree_by(plan, sightings):
    """The told tree of a list of sightings, as they are without asking."""
    sights = [sight_of(plan, number, sighting) for number, sighting in enumerate(sightings)]
    return grown(plan.work(), 1, steps_of(plan, 0, sights))


def tree_of(course, sightings, *, begin=0):
    """The told tree of sightings, a list of nodes."""
    need_sightings(course.work(), begin, sightings)
    return tree_by(plan_for(course, begin, sightings), list(sightings))
