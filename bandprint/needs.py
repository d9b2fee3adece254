"""What sightings need: walked backward, without signs, from the last of them to the beginning."""

from bandprint.plans import Plan
from bandprint.sights import last_beat, need_sightings


def needed_by(plan, looks):
    """(places, presses) that looks, (beat, where it stood), need: dicts of True by the beginning's places' numbers, and
    by (beat, press's number)."""
    needed = {}
    pressed = {}
    for beat in range(last_beat(plan.start(), looks), plan.start(), -1):
        for told, stood in looks:
            if told == beat:
                needed[stood] = True
        for stood, _ in plan.laid(beat):
            needed.pop(stood, None)
        for number, above, below in plan.presses(beat)[::-1]:
            if below in needed:
                pressed[(beat, number)] = True
                needed[above] = True
    for told, stood in looks:
        if told == plan.start():
            needed[stood] = True
    return needed, pressed


def plan_for(course, begin, sightings):
    """The plan of a course as far as sightings go."""
    return Plan(course, begin, last_beat(begin, sightings) - begin)


def needed_of(course, sightings, begin):
    """What needed_by tells of sightings, refused where they are none."""
    need_sightings(course.work(), begin, sightings)
    plan = plan_for(course, begin, sightings)
    return needed_by(plan, [(beat, plan.stood(beat, place)) for beat, place, _ in sightings])


def asked(course, sightings, *, begin=0):
    """The places of the beginning that sightings need, a list by bands and numbers."""
    needed, _ = needed_of(course, sightings, begin)
    return [place for number, place in enumerate(course.work().places()) if number in needed]


def needed_presses(course, sightings, *, begin=0):
    """A list of (beat, press's number), rising, of the presses that sightings need."""
    _, presses = needed_of(course, sightings, begin)
    return sorted(presses)
