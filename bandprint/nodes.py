"""Nodes: lists of them, whoever wrote them, that part all beginnings into boxes."""

from bandprint.cases import begun, go_on, with_text
from bandprint.signs import is_within


def is_split(node):
    """Whether a node, of anything, is a split by its word."""
    return isinstance(node, tuple) and len(node) == 3 and node[0] == "split"


def is_part(thing):
    """Whether a thing is a tuple of a text, rising, not empty, and something."""
    if not isinstance(thing, tuple) or len(thing) != 2 or not isinstance(thing[0], str) or not thing[0]:
        return False
    return all([thing[0][at - 1] < thing[0][at] for at in range(1, len(thing[0]))])


def is_split_of(work, box, node):
    """Whether a split parts what its box gives a place of the work."""
    _, place, parts = node
    if not work.has_place(place) or not isinstance(parts, tuple) or not all([is_part(part) for part in parts]):
        return False
    return sorted("".join([signs for signs, _ in parts])) == list(box[work.place_in(place)])


def part_boxes(work, box, node):
    """The boxes of a split's parts, in their order."""
    at = work.place_in(node[1])
    return [with_text(box, at, signs) for signs, _ in node[2]]


def boxes_by_nodes(work, thing):
    """A box for each node of a thing, in order, or None where it is no list of nodes that parts all beginnings."""
    if not isinstance(thing, list):
        return None
    found = {0: [work.signs() for _ in work.places()]}
    for number, node in enumerate(thing):
        if number not in found:
            return None
        if not is_split(node):
            continue
        if not is_split_of(work, found[number], node):
            return None
        parts = part_boxes(work, found[number], node)
        for (_, child), box in zip(node[2], parts):
            # What is in found by now is no greater than this number, or a part's already.
            if not is_within(child, 0, len(thing) - 1) or child in found:
                return None
            found[child] = box
    if not thing:
        return None
    return [found[number] for number in range(len(thing))]


def leaves_of(work, thing):
    """The leaves of a thing, (node, box), in order, or None where it is no list of nodes that parts all beginnings."""
    found = boxes_by_nodes(work, thing)
    if found is None:
        return None
    return [(node, box) for node, box in zip(thing, found) if not is_split(node)]


def ends_so(box, runs, steps, node):
    """Whether the steps of so many runs go through in a box without a split, to just this leaf."""
    _, end = go_on(begun(box, runs), steps, 0)
    return end == node
