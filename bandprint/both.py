"""Two looks of two courses, or of one: whether they show the same for every beginning."""

from bandprint.bands import names_and_longs
from bandprint.cases import grown, steps_of
from bandprint.errors import OtherWork
from bandprint.needs import plan_for
from bandprint.nodes import ends_so, leaves_of
from bandprint.rows import are_rows, rows_of
from bandprint.sights import need_look, sign_shown


def need_same_bands(one, other):
    """Refuse two courses whose works have other signs or other bands, paces aside."""
    if one.work().signs() != other.work().signs():
        raise OtherWork("signs")
    if names_and_longs(one.work()) != names_and_longs(other.work()):
        raise OtherWork("bands")


def steps_of_both(plan, look, there, look_there):
    """The steps by which the first course's run, then the other's, come to their looks."""
    stood = plan.stood(*look)
    stood_there = there.stood(*look_there)
    ends = [("compare", 0, stood, 1, stood_there)]
    steps = steps_of(plan, 0, [(look[0], stood, [])])
    return steps + steps_of(there, 1, [(look_there[0], stood_there, ends)])


def differ(plan, look, there, look_there, rows):
    """Whether runs of rows show unlike signs at the looks of two plans."""
    sign = sign_shown(plan.course(), rows, look, plan.start())
    return sign != sign_shown(there.course(), rows, look_there, there.start())


def rows_apart(plan, look, there, look_there, box):
    """Rows in a box, in which the looks differ, by which they do: the signs of two places tell it, all others don't."""
    stood = plan.stood(*look)
    stood_there = there.stood(*look_there)
    for sign in box[stood]:
        for sign_there in box[stood_there]:
            signs = [text[0] for text in box]
            signs[stood] = sign
            signs[stood_there] = sign_there
            rows = rows_of(plan.work(), signs)
            if differ(plan, look, there, look_there, rows):
                return rows
    return None


def both_by(plan, look, there, look_there):
    """What both_show tells of looks of two plans, as they are without asking."""
    tree = grown(plan.work(), 2, steps_of_both(plan, look, there, look_there))
    for node, box in leaves_of(plan.work(), tree):
        if node == ("unlike",):
            return ("unlike", rows_apart(plan, look, there, look_there, box))
    return ("same", tree)


def both_show(one, look, other, look_there, *, begin=0):
    """("same", tree) where two looks show one sign for every beginning, else ("unlike", rows)."""
    need_same_bands(one, other)
    need_look(one.work(), begin, look)
    need_look(other.work(), begin, look_there)
    return both_by(plan_for(one, begin, [look]), look, plan_for(other, begin, [look_there]), look_there)


def lets_same_by(plan, look, there, look_there, thing):
    """Whether a thing, of anything, is a tree of cases in each of which two looks show the same."""
    leaves = leaves_of(plan.work(), thing)
    if leaves is None or not all([node == ("same",) for node, _ in leaves]):
        return False
    steps = steps_of_both(plan, look, there, look_there)
    return all([ends_so(box, 2, steps, node) for node, box in leaves])


def are_apart_by(plan, look, there, look_there, thing):
    """Whether a thing, of anything, is rows by which two looks differ."""
    return are_rows(plan.work(), thing) and differ(plan, look, there, look_there, thing)


def is_both(plan, look, there, look_there, thing):
    """Whether a thing, of anything, is such an answer to looks of two plans, as they are without asking."""
    if not isinstance(thing, tuple) or len(thing) != 2:
        return False
    if thing[0] == "same":
        return lets_same_by(plan, look, there, look_there, thing[1])
    return thing[0] == "unlike" and are_apart_by(plan, look, there, look_there, thing[1])


def shows_both(one, look, other, look_there, thing, *, begin=0):
    """Whether a thing, of anything, is such an answer, whoever wrote its tree."""
    need_same_bands(one, other)
    need_look(one.work(), begin, look)
    need_look(other.work(), begin, look_there)
    return is_both(plan_for(one, begin, [look]), look, plan_for(other, begin, [look_there]), look_there, thing)
