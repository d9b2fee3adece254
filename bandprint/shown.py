"""What a look shows of all beginnings, what a further look would tell, and which of some looks is best."""

from bandprint.boxes import boxes, how_many
from bandprint.cases import grown, steps_of
from bandprint.needs import plan_for
from bandprint.nodes import ends_so, leaves_of
from bandprint.sights import need_look, need_sightings
from bandprint.trees import tree_by


def shown_steps(plan, look):
    """The steps of a run of what a look needs, up to what it shows."""
    beat, place = look
    stood = plan.stood(beat, place)
    return steps_of(plan, 0, [(beat, stood, [("show", 0, stood)])])


def shown(course, look, *, begin=0):
    """The tree of a look, a list of nodes, its leaves ("shows", sign)."""
    need_look(course.work(), begin, look)
    return grown(course.work(), 1, shown_steps(plan_for(course, begin, [look]), look))


def shows_shown(course, look, thing, *, begin=0):
    """Whether a thing, of anything, is a tree of cases for what a look shows."""
    need_look(course.work(), begin, look)
    leaves = leaves_of(course.work(), thing)
    if leaves is None:
        return False
    steps = shown_steps(plan_for(course, begin, [look]), look)
    return all([ends_so(box, 1, steps, node) for node, box in leaves])


def many_with(plan, sightings, look):
    """For each sign how many beginnings show all of a list of sightings and this sign at a look."""
    work = plan.work()
    return {sign: how_many(boxes(work, tree_by(plan, sightings + [(*look, sign)]))) for sign in work.signs()}


def would(course, sightings, look, *, begin=0):
    """For each sign of the work how many beginnings show all sightings and this sign at a look."""
    need_sightings(course.work(), begin, sightings)
    need_look(course.work(), begin, look)
    sightings = list(sightings)
    return many_with(plan_for(course, begin, sightings + [look]), sightings, look)


def best_look(course, sightings, looks, *, begin=0):
    """The place in a list of the first look whose greatest number of beginnings is least, or None of no looks."""
    need_sightings(course.work(), begin, sightings)
    for look in looks:
        need_look(course.work(), begin, look)
    sightings = list(sightings)
    plan = plan_for(course, begin, [*sightings, *looks])
    greatest = [max(list(many_with(plan, sightings, look).values())) for look in looks]
    if not greatest:
        return None
    return greatest.index(min(greatest))
