"""Runs by cases: the beginning's places have some signs each, and runs go on by what these come to.

No two places come from one, so what stood at a place of the beginning has come to a text: for each sign that the box
gives the place the sign it has come to, in order, or one sign alone where all have come to that one.

A run is a list of steps, tuples of a word, the run's number, and what the step works on:
- ("print", run, above, below, turns): a press reads where above stood, and turns what stood at below;
- ("lay", run, stood, sign): a hand lays a sign on what stood there;
- ("see", run, stood, sign, number): the sighting of this number;
- ("show", run, stood): a look's end, whatever sign is shown;
- ("compare", run, stood, other run, other stood): the end of two looks that are to show the same.
A step is taken, or it ends its node: with ("split", place's number, texts) or with a leaf.
"""

from bandprint.errors import TooMany
from bandprint.needs import needed_by
from bandprint.sights import last_beat
from bandprint.signs import MOST


def at_once(come):
    """What signs have come to, one sign alone where they all have come to it."""
    if come == come[0] * len(come):
        return come[0]
    return come


def come_of(come, elder, signs):
    """What is left of a text come to, where of a place's elder signs only these are left."""
    if len(come) == 1:
        return come
    return at_once("".join([heir for sign, heir in zip(elder, come) if sign in signs]))


def with_text(texts, number, text):
    """Texts with another one at a number."""
    return texts[:number] + [text] + texts[number + 1:]


class Cases:
    """A box, and what its places have come to in some runs."""

    def __init__(self, box, come):
        self.box = box
        self.come = come

    def narrowed(self, stood, signs):
        """The cases of those of the box's signs at a place."""
        elder = self.box[stood]
        come = [with_text(run, stood, come_of(run[stood], elder, signs)) for run in self.come]
        return Cases(with_text(self.box, stood, signs), come)


def begun(box, runs):
    """The cases of a box at the begin of so many runs: each place has come from itself."""
    return Cases(list(box), [list(box) for _ in range(runs)])


def split_by_come(cases, run, stood):
    """A split of a place into a part for each sign that it has come to, rising by these."""
    elder = cases.box[stood]
    come = cases.come[run][stood]
    texts = ["".join([sign for sign, heir in zip(elder, come) if heir == told]) for told in sorted(set(come))]
    return ("split", stood, texts)


def take_print(cases, step):
    """A press reads and turns."""
    _, run, above, below, turns = step
    come = cases.come[run]
    if len(come[above]) > 1:
        return split_by_come(cases, run, above)
    turn = turns[come[above]]
    come[below] = at_once("".join([turn[sign] for sign in come[below]]))
    return None


def take_lay(cases, step):
    """A hand lays a sign."""
    _, run, stood, sign = step
    cases.come[run][stood] = sign
    return None


def take_see(cases, step):
    """A sighting goes by, or parts the box, or isn't shown in it."""
    _, run, stood, sign, number = step
    come = cases.come[run][stood]
    if sign not in come:
        return ("clashes", number)
    if len(come) == 1:
        return None
    elder = cases.box[stood]
    seen = "".join([told for told, heir in zip(elder, come) if heir == sign])
    others = "".join([told for told, heir in zip(elder, come) if heir != sign])
    return ("split", stood, [seen, others])


def take_show(cases, step):
    """A look shows one sign, or parts the box."""
    _, run, stood = step
    if len(cases.come[run][stood]) > 1:
        return split_by_come(cases, run, stood)
    return ("shows", cases.come[run][stood])


def take_compare(cases, step):
    """Two looks have come to one sign, or from one place to the same sign for each of its signs, or differ."""
    _, run, stood, other, there = step
    come = cases.come[run][stood]
    if come == cases.come[other][there] and (len(come) == 1 or stood == there):
        return ("same",)
    return ("unlike",)


TAKEN = {"print": take_print, "lay": take_lay, "see": take_see, "show": take_show, "compare": take_compare}


def go_on(cases, steps, at):
    """Take the steps from number at on: the number of the one that ends the node, and how it does."""
    while at < len(steps):
        step = steps[at]
        take = TAKEN[step[0]]
        end = take(cases, step)
        if end is not None:
            return at, end
        at += 1
    return at, ("fits",)


def steps_of(plan, run, sights):
    """The steps of a run of what sights need, (beat, where it stood, steps that come when this beat is done)."""
    _, needed = needed_by(plan, [(beat, stood) for beat, stood, _ in sights])
    turns = plan.turns()
    steps = [step for told, _, ends in sights if told == plan.start() for step in ends]
    for beat in range(plan.start() + 1, last_beat(plan.start(), sights) + 1):
        for number, above, below in plan.presses(beat):
            if (beat, number) in needed:
                steps.append(("print", run, above, below, turns[number]))
        for stood, sign in plan.laid(beat):
            steps.append(("lay", run, stood, sign))
        for told, _, ends in sights:
            if told == beat:
                steps.extend(ends)
    return steps


def numbered_node(work, node, children):
    """A node as it is told: a split by its place and its parts' numbers."""
    if node[0] != "split":
        return node
    return ("split", work.places()[node[1]], tuple(zip(node[2], children)))


def grown(work, runs, steps):
    """The nodes, in their order, of a tree of all beginnings, gone through depth first by the steps of so many runs."""
    nodes = []
    children = {}
    leaves = 0
    waiting = [(begun([work.signs() for _ in work.places()], runs), 0, None)]
    while waiting:
        cases, at, elder = waiting.pop()
        number = len(nodes)
        if elder is not None:
            children[elder].append(number)
        at, end = go_on(cases, steps, at)
        nodes.append(end)
        if end[0] == "split":
            children[number] = []
            for signs in end[2][::-1]:
                waiting.append((cases.narrowed(end[1], signs), at, number))
        else:
            leaves += 1
        # Each one that waits has a leaf at the least.
        if leaves + len(waiting) > MOST:
            raise TooMany(MOST)
    return [numbered_node(work, node, children.get(number)) for number, node in enumerate(nodes)]
