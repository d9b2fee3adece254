"""The web of all stands of a small work: each leads to one."""

from math import lcm

from bandprint.beats import next_rows
from bandprint.courses import Course
from bandprint.errors import TooMany
from bandprint.firsts import is_met
from bandprint.rows import rows_of
from bandprint.signs import STANDS


def need_few(work):
    """Refuse a work that has too many stands."""
    many = work.common()
    for _ in range(len(work)):
        many = many * len(work.signs())
    if many > STANDS:
        raise TooMany(many)


def all_rows(work):
    """All rows of a work, rising."""
    texts = [""]
    for _ in range(len(work)):
        texts = [text + sign for text in texts for sign in work.signs()]
    return [rows_of(work, text) for text in texts]


def all_stands(work):
    """All stands of a work, rising, refused where there are too many."""
    need_few(work)
    rows = all_rows(work)
    return [(rest, each) for rest in range(work.common()) for each in rows]


def heirs_of(work, stands):
    """For each of all stands the number of the stand that it leads to."""
    course = Course(work)
    numbers = {stand: number for number, stand in enumerate(stands)}
    return [numbers[((rest + 1) % work.common(), next_rows(course, rows, rest))] for rest, rows in stands]


def path_from(heirs, start, known):
    """The numbers from start on, each the one before's heir, up to one that is known or on the path already."""
    path = []
    places = {}
    at = start
    while at not in known and at not in places:
        places[at] = len(path)
        path.append(at)
        at = heirs[at]
    if at in known:
        return path, []
    return path[:places[at]], path[places[at]:]


def landings(heirs):
    """For each number (the least number of the round that it leads into, how many beats it is ahead of it)."""
    known = {}
    for start in range(len(heirs)):
        path, ring = path_from(heirs, start, known)
        least = min(ring, default=None)
        for number in ring:
            known[number] = (least, 0)
        for number in path[::-1]:
            least, ahead = known[heirs[number]]
            known[number] = (least, ahead + 1)
    return [known[number] for number in range(len(heirs))]


def lengths_of(found):
    """How many numbers each round has, by its least one, of the landings."""
    lengths = {}
    for least, ahead in found:
        if ahead == 0:
            lengths[least] = lengths.get(least, 0) + 1
    return lengths


def web(work):
    """A list of the rounds, (length, many, least), rising."""
    stands = all_stands(work)
    found = landings(heirs_of(work, stands))
    lengths = lengths_of(found)
    many = {}
    for least, _ in found:
        many[least] = many.get(least, 0) + 1
    return sorted([(lengths[least], many[least], stands[least]) for least in lengths])


def round_of_all(work):
    """(from, round), the least such that behind from beats each stand stands again behind round more."""
    found = landings(heirs_of(work, all_stands(work)))
    common = 1
    for length in lengths_of(found).values():
        common = lcm(common, length)
    return (max([ahead for _, ahead in found]), common)


def beats_to(heirs, goals):
    """By number, of those that ever lead to a goal, behind how many beats they first do."""
    elders = [[] for _ in heirs]
    for number, heir in enumerate(heirs):
        elders[heir].append(number)
    found = {number: 0 for number in goals}
    front = goals
    while front:
        following = [elder for number in front for elder in elders[number] if elder not in found]
        for elder in following:
            found[elder] = found[heirs[elder]] + 1
        front = following
    return found


def ever(work, wish):
    """(many, beats): how many beginnings ever meet the wish, and the greatest of their least numbers, or None."""
    stands = all_stands(work)
    goals = [number for number, (_, rows) in enumerate(stands) if is_met(work, rows, wish)]
    found = beats_to(heirs_of(work, stands), goals)
    firsts = [found[number] for number, (rest, _) in enumerate(stands) if rest == 0 and number in found]
    return (len(firsts), max(firsts, default=None))
