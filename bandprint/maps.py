"""Maps of signs: texts whose k-th sign is what the k-th of the signs becomes."""

from bandprint.errors import NotOne


def together(signs, one, other):
    """The map that does one first, then the other."""
    return "".join([other[signs.index(sign)] for sign in one])


def powers(signs, one):
    """All maps that one makes by being done 0, 1, .. times, each once, and the number of the one that comes again."""
    found = [signs]
    while True:
        following = together(signs, found[-1], one)
        if following in found:
            return found, found.index(following)
        found.append(following)


def power(signs, one, times):
    """The map done so many times, from 0 on."""
    found, first = powers(signs, one)
    if times < first:
        return found[times]
    return found[first + (times - first) % (len(found) - first)]


def map_round(signs, one):
    """(from, round), the least, such that done from and from + round times are the same."""
    found, first = powers(signs, one)
    return (first, len(found) - first)


def times_to(signs, one, other):
    """The least number of times by which one becomes the other, or None."""
    found, _ = powers(signs, one)
    if other not in found:
        return None
    return found.index(other)


def is_one_to_one(signs, one):
    """Whether each sign is what just one becomes."""
    return sorted(one) == list(signs)


def turned_map(signs, one):
    """The map that turns this one back."""
    for sign in signs:
        if sign not in one:
            raise NotOne(sign)
    return "".join([signs[one.index(sign)] for sign in signs])


def sources(signs, one, sign):
    """The signs, rising, that become this one."""
    return "".join([elder for elder, heir in zip(signs, one) if heir == sign])


def press_maps(press):
    """For each sign above the map by which a press turns the one below; of one place each sign turns itself."""
    if press.above() != press.below():
        return list(press.table())
    own = "".join([text[at] for at, text in enumerate(press.table())])
    return [own for _ in press.table()]
