"""What deeds do to the works and stands of a hall, dicts by their names, or why they are refused.

A deed that is refused may have changed the dicts: whoever hands them in hands in copies.
"""

from bandprint.bands import names_and_longs
from bandprint.errors import Full, Needed, NoName, Seen, Taken, Unfit
from bandprint.rows import are_rows, sign_at
from bandprint.signs import is_sign
from bandprint.stands import MOST_LOOKS, begun_stand, run_to, signs_looked_at

_MOST_DEEDS = 12


def need_new(works, stands, name):
    """Refuse a name that stands already."""
    if name in works or name in stands:
        raise Taken(name)


def need_name(things, name):
    """Refuse a name that isn't there, or is of the other sort."""
    if name not in things:
        raise NoName(name)


def need_room(stand, name):
    """Refuse one more put or lift than a stand takes."""
    if len(stand.hand_puts) + len(stand.hand_lifts) >= _MOST_DEEDS:
        raise Full(name)


def do_work(works, stands, deed):
    """A work by a new name."""
    _, name, work = deed
    need_new(works, stands, name)
    works[name] = work


def fits_stands(work, stands):
    """Whether a work has all presses that lifts of stands speak of."""
    return all([work.has_press(press) for stand in stands for _, press, _ in stand.hand_lifts])


def changed_stand(name, stand, work):
    """A stand run anew by another work, refused with the first look that would be told otherwise."""
    stand = run_to(stand, work, stand.beat)
    for number, sign in enumerate(signs_looked_at(stand, work)):
        if sign != stand.past_looks[number][2]:
            raise Seen(name, number)
    return stand


def do_change(works, stands, deed):
    """Another work by a name that stands."""
    _, name, work = deed
    need_name(works, name)
    running = [each for each in sorted(stands) if stands[each].work_name == name]
    elder = works[name]
    if work.signs() != elder.signs() or names_and_longs(work) != names_and_longs(elder):
        raise Unfit(name)
    if not fits_stands(work, [stands[each] for each in running]):
        raise Unfit(name)
    for each in running:
        stands[each] = changed_stand(each, stands[each], work)
    works[name] = work


def do_stand(works, stands, deed):
    """A stand at its beginning."""
    _, name, work_name, begin, rows = deed
    need_new(works, stands, name)
    need_name(works, work_name)
    if not are_rows(works[work_name], rows):
        raise Unfit(name)
    stands[name] = begun_stand(work_name, begin, rows)


def do_twin(works, stands, deed):
    """A new stand that is all as another one is."""
    _, name, other = deed
    need_new(works, stands, other)
    need_name(stands, name)
    stands[other] = stands[name]


def do_run(works, stands, deed):
    """So many beats more, told from the beginning, so that a run in parts is refused as a whole one is."""
    _, name, beats = deed
    need_name(stands, name)
    stand = stands[name]
    stands[name] = run_to(stand, works[stand.work_name], stand.beat + beats)


def do_put(works, stands, deed):
    """A put of the beat behind the one that the stand has come to."""
    _, name, place, sign = deed
    need_name(stands, name)
    stand = stands[name]
    work = works[stand.work_name]
    if not work.has_place(place) or not is_sign(work.signs(), sign):
        raise Unfit(name)
    need_room(stand, name)
    stands[name] = stand.with_more(hand_puts=((stand.beat + 1, place, sign),))


def do_lift(works, stands, deed):
    """A lift of the beat that the stand has come to."""
    _, name, press, word = deed
    need_name(stands, name)
    stand = stands[name]
    if not works[stand.work_name].has_press(press):
        raise Unfit(name)
    need_room(stand, name)
    stands[name] = stand.with_more(hand_lifts=((stand.beat, press, word),))


def do_look(works, stands, deed):
    """The sign that stands at a place now, a look from then on."""
    _, name, place = deed
    need_name(stands, name)
    stand = stands[name]
    work = works[stand.work_name]
    if not work.has_place(place):
        raise Unfit(name)
    if len(stand.past_looks) >= MOST_LOOKS:
        raise Full(name)
    sign = sign_at(work, stand.rows_now, place)
    stands[name] = stand.with_more(past_looks=((stand.beat, place, sign),))
    return sign


def do_drop(works, stands, deed):
    """A stand, or a work that no stand runs any more."""
    _, name = deed
    if name in stands:
        del stands[name]
        return
    need_name(works, name)
    for each in sorted(stands):
        if stands[each].work_name == name:
            raise Needed(name, each)
    del works[name]


DOINGS = {"work": do_work, "change": do_change, "stand": do_stand, "twin": do_twin, "run": do_run,
          "put": do_put, "lift": do_lift, "look": do_look, "drop": do_drop}


def done(works, stands, deed):
    """Do a deed: None, or the sign that is looked at."""
    do_it = DOINGS[deed[0]]
    return do_it(works, stands, deed)
