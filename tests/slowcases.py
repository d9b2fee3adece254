"""Runs by cases and their trees, done the slow way: place by place, and anew from the begin in each node."""

import itertools

from bandprint.bands import Band, Press, Work
from bandprint.courses import Course
from bandprint.errors import TooMany
from tests.samples import slow_run, slow_up


def all_rows(work):
    """All rows of a work."""
    rows = [()]
    for band in work.bands():
        rows = [(*each, "".join(text)) for each in rows for text in itertools.product(work.signs(), repeat=band.long())]
    return rows


def place_sign(work, rows, place):
    """The sign at a place."""
    return rows[[band.called() for band in work.bands()].index(place[0])][place[1]]


def shows(course, rows, sightings, begin=0):
    """Whether a run of rows shows all sightings."""
    last = max((beat for beat, _, _ in sightings), default=begin)
    told = slow_run(course, rows, last - begin, begin)
    return all(place_sign(course.work(), told[beat - begin], place) == sign for beat, place, sign in sightings)


def working(course, beat):
    """The numbers of the presses that work at a beat."""
    presses = course.work().presses()
    return [number for number, press in enumerate(presses)
            if press.rhythm()[(beat - 1) % len(press.rhythm())] == "x" and not slow_up(course, number, beat)]


def moved(work, place, beats):
    """Where what stands at a place comes to by its band's pace."""
    band = [each for each in work.bands() if each.called() == place[0]][0]
    return (place[0], (place[1] + beats * band.pace()) % band.long())


def slow_needs(course, looks, begin=0):
    """The asked places, and the needed presses."""
    work = course.work()
    needed, presses = set(), []
    for beat in range(max((look[0] for look in looks), default=begin), begin, -1):
        needed |= {look[1] for look in looks if look[0] == beat}
        needed -= {place for told, place, _ in course.puts() if told == beat}
        for number in working(course, beat)[::-1]:
            press = work.presses()[number]
            if press.below() in needed:
                presses.append((beat, number))
                needed.add(press.above())
        needed = {moved(work, place, -1) for place in needed}
    needed |= {look[1] for look in looks if look[0] == begin}
    return [place for place in work.places() if place in needed], sorted(presses)


def case(place, signs):
    """A place's case by signs, a dict: the one sign that all come to, or where from and the dict."""
    told = set(signs.values())
    return told.pop() if len(told) == 1 else (place, signs)


def by_come(found):
    """A split by a case that has come to several signs, rising by these."""
    place, signs = found
    return ("split", place, ["".join(sorted(sign for sign in signs if signs[sign] == told))
                             for told in sorted(set(signs.values()))])


def slow_cases(course, looks, begin, box, end_at):
    """Run by cases what looks need: the first end that end_at tells of a beat, or a split at a read, or None."""
    work = course.work()
    _, needed = slow_needs(course, looks, begin)
    cases = {place: case(place, {sign: sign for sign in box[place]}) for place in work.places()}
    for beat in range(begin, max((look[0] for look in looks), default=begin) + 1):
        if beat > begin:
            cases = {moved(work, place, 1): cases[place] for place in work.places()}
            for _, number in [each for each in needed if each[0] == beat]:
                press = work.presses()[number]
                above, below = cases[press.above()], cases[press.below()]
                if isinstance(above, tuple):
                    return by_come(above)
                text = press.table()[work.signs().index(above)]
                turn = dict(zip(work.signs(), text))
                cases[press.below()] = turn[below] if isinstance(below, str) else case(
                    below[0], {sign: turn[told] for sign, told in below[1].items()})
            for told, place, sign in course.puts():
                if told == beat:
                    cases[place] = sign
        end = end_at(beat, cases)
        if end is not None:
            return end
    return None


def end_of_sightings(sightings):
    """What ends a node by the sightings behind a beat."""
    def end_at(beat, cases):
        for number, (told, place, sign) in enumerate(sightings):
            if told != beat:
                continue
            found = cases[place]
            signs = found[1] if isinstance(found, tuple) else {None: found}
            if sign not in signs.values():
                return ("clashes", number)
            if isinstance(found, tuple):
                seen = "".join(sorted(each for each in signs if signs[each] == sign))
                others = "".join(sorted(each for each in signs if signs[each] != sign))
                return ("split", found[0], [seen, others])
        return None
    return end_at


def end_of_look(look):
    """What ends a node by a look."""
    def end_at(beat, cases):
        if beat != look[0]:
            return None
        found = cases[look[1]]
        return by_come(found) if isinstance(found, tuple) else ("shows", found)
    return end_at


def slow_grown(work, end_of_box):
    """A tree, box by box; end_of_box tells of a box how its node ends."""
    nodes, leaves = [], []

    def visit(box):
        number = len(nodes)
        nodes.append(None)
        end = end_of_box(box)
        if end[0] == "split":
            parts = [(signs, visit({**box, end[1]: signs})) for signs in end[2]]
            nodes[number] = ("split", end[1], tuple(parts))
        else:
            nodes[number] = end
            leaves.append(number)
            if len(leaves) > 200:
                raise TooMany(200)
        return number

    visit({place: work.signs() for place in work.places()})
    return nodes


def slow_tree(course, sightings, begin=0):
    """The told tree of sightings."""
    def end_of_box(box):
        end = slow_cases(course, sightings, begin, box, end_of_sightings(sightings))
        return ("fits",) if end is None else end
    return slow_grown(course.work(), end_of_box)


def slow_shown(course, look, begin=0):
    """The tree of a look."""
    return slow_grown(course.work(), lambda box: slow_cases(course, [look], begin, box, end_of_look(look)))


def slow_both(one, look, other, look_there, begin=0):
    """The tree of two looks, its leaves ("same",) or ("unlike",)."""
    def end_of_box(box):
        ends = []
        for course, told in [(one, look), (other, look_there)]:
            def end_at(beat, cases, told=told):
                if beat == told[0]:
                    ends.append(cases[told[1]])
            split = slow_cases(course, [told], begin, box, end_at)
            if split is not None:
                return split
        return ("same",) if ends[0] == ends[1] else ("unlike",)
    return slow_grown(one.work(), end_of_box)


def slow_boxes(work, nodes, leaf=None):
    """The boxes of a tree's leaves of this sort (of all leaves where it is left out), with the leaves, in order."""
    found = []

    def visit(number, box):
        node = nodes[number]
        if node[0] == "split":
            for signs, child in node[2]:
                visit(child, {**box, node[1]: signs})
        elif leaf is None or node == leaf:
            found.append((number, node, tuple(box[place] for place in work.places())))

    visit(0, {place: work.signs() for place in work.places()})
    return [(node, box) for _, node, box in sorted(found)]


def in_box(box, rows):
    """Whether rows lie in a box."""
    return all(sign in signs for sign, signs in zip("".join(rows), box))


def sightings_of(chance, course, many, begin=0, last=8, rows=None):
    """So many sightings by chance, of a run of rows where they are handed in (but one in ten)."""
    work = course.work()
    told = []
    for _ in range(many):
        beat, place = begin + chance.choice([0, chance.randint(0, last)]), chance.choice(work.places())
        sign = chance.choice(work.signs())
        if rows is not None and chance.random() < 0.9:
            sign = place_sign(work, slow_run(course, rows, beat - begin, begin)[-1], place)
        told.append((beat, place, sign))
    return told


def many_leaves(more):
    """A course and sightings whose told tree has 192 leaves, and so many more by sightings at begin (to 12)."""
    cycles = ("abcd", "bcda", "cdab", "dabc")
    presses = [Press(("k", 0), ("d", 0), ("aabc",) * 4, rhythm="-x")]
    presses = presses + [Press((name, 0), ("e", 0), cycles, rhythm="-x") for name in "abcd"]
    work = Work("abcd", [*[Band(name, 1) for name in "abcde"], Band("k", 12)], presses)
    course = Course(work, puts=[(1, ("e", 0), "a"), (1, ("k", 0), "a")])
    return course, [(2, ("e", 0), "a")] + [(0, ("k", at), "a") for at in range(more)]
