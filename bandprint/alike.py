"""Two courses that show the same at windows, beat by beat, and places of one course that show what others showed."""

from bandprint.both import are_apart_by, both_by, lets_same_by, need_same_bands
from bandprint.errors import NoBeat
from bandprint.plans import Plan
from bandprint.signs import DEEPEST, is_whole, is_within


def need_beats(beats, most):
    """Refuse what is no whole number from 0 to most."""
    if not is_within(beats, 0, most):
        raise NoBeat(beats)


def window_pairs(one, other, windows, beats, begin):
    """The pairs of looks by beats, of each by windows, refused where something isn't as told."""
    need_same_bands(one, other)
    for place in windows:
        one.work().place_in(place)
    need_beats(beats, DEEPEST)
    return [((beat, place), (beat, place)) for beat in range(begin, begin + beats + 1) for place in windows]


def echo_pairs(course, place, other, delay, beats, begin):
    """The pairs of looks, the other's delay beats ahead, refused where something isn't as told."""
    course.work().place_in(place)
    course.work().place_in(other)
    need_beats(beats, DEEPEST)
    need_beats(delay, beats)
    return [((begin + beat, place), (begin + beat - delay, other)) for beat in range(delay, beats + 1)]


def go_through(plan, there, pairs):
    """The trees of pairs of looks up to the first that are unlike, and rows that show it, or None."""
    trees = []
    for look, look_there in pairs:
        word, found = both_by(plan, look, there, look_there)
        if word == "unlike":
            return trees, found
        trees.append(found)
    return trees, None


def are_same(plan, there, pairs, thing):
    """Whether a thing, of anything, is a list of trees that show pairs of looks, in order, to be the same."""
    if not isinstance(thing, list) or len(thing) != len(pairs):
        return False
    for (look, look_there), tree in zip(pairs, thing):
        if not lets_same_by(plan, look, there, look_there, tree):
            return False
    return True


def are_parted(plan, there, pairs, trees, rows):
    """Whether a thing, of anything, is a list of trees of the first pairs, and another are rows that part the next."""
    if not isinstance(trees, list) or len(trees) >= len(pairs):
        return False
    look, look_there = pairs[len(trees)]
    return (are_apart_by(plan, look, there, look_there, rows)
            and are_same(plan, there, pairs[:len(trees)], trees))


def is_first_look(plan, pairs, number, look):
    """Whether a thing, of anything, is the first look of the pair of this number."""
    beat, place = look
    return is_whole(beat) and plan.work().has_place(place) and look == pairs[number][0]


def alike(one, other, windows, beats, *, begin=0):
    """("alike", trees), or ("parts", trees, beat, place, rows) of the first window that shows two courses unlike."""
    pairs = window_pairs(one, other, windows, beats, begin)
    trees, rows = go_through(Plan(one, begin, beats), Plan(other, begin, beats), pairs)
    if rows is None:
        return ("alike", trees)
    beat, place = pairs[len(trees)][0]
    return ("parts", trees, beat, place, rows)


def shows_alike(one, other, windows, beats, thing, *, begin=0):
    """Whether a thing, of anything, is such an answer of two courses."""
    pairs = window_pairs(one, other, windows, beats, begin)
    plan, there = Plan(one, begin, beats), Plan(other, begin, beats)
    if not isinstance(thing, tuple):
        return False
    if len(thing) == 2:
        return thing[0] == "alike" and are_same(plan, there, pairs, thing[1])
    if len(thing) != 5 or thing[0] != "parts":
        return False
    _, trees, beat, place, rows = thing
    return are_parted(plan, there, pairs, trees, rows) and is_first_look(plan, pairs, len(trees), (beat, place))


def echoes(course, place, other, delay, beats, *, begin=0):
    """("echoes", trees), or ("parts", trees, beat, rows) of the first beat at which a place shows something else."""
    pairs = echo_pairs(course, place, other, delay, beats, begin)
    plan = Plan(course, begin, beats)
    trees, rows = go_through(plan, plan, pairs)
    if rows is None:
        return ("echoes", trees)
    beat, _ = pairs[len(trees)][0]
    return ("parts", trees, beat, rows)


def shows_echoes(course, place, other, delay, beats, thing, *, begin=0):
    """Whether a thing, of anything, is such an answer of one course."""
    pairs = echo_pairs(course, place, other, delay, beats, begin)
    plan = Plan(course, begin, beats)
    if not isinstance(thing, tuple):
        return False
    if len(thing) == 2:
        return thing[0] == "echoes" and are_same(plan, plan, pairs, thing[1])
    if len(thing) != 4 or thing[0] != "parts":
        return False
    _, trees, beat, rows = thing
    return are_parted(plan, plan, pairs, trees, rows) and is_first_look(plan, pairs, len(trees), (beat, place))
