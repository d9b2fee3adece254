"""Classes: which beginnings of a small work its windows tell apart, and behind how many beats.

All stands are labelled: first by what the windows show now, then, again and again, by their own label and that of the
stand that they lead to. Behind so many of these, like labels are those that show the same for as many beats.
"""

from bandprint.web import all_stands, heirs_of


def labelled(things):
    """A number for each of the things, alike where these are, counted as they first come."""
    numbers = {}
    return [numbers.setdefault(thing, len(numbers)) for thing in things]


def shown_labels(work, stands, windows):
    """What the windows show of each stand."""
    numbers = [work.place_in(place) for place in windows]
    signs = ["".join(rows) for _, rows in stands]
    return ["".join([text[number] for number in numbers]) for text in signs]


def next_labels(labels, heirs):
    """The labels of one beat more."""
    return labelled([(label, labels[heir]) for label, heir in zip(labels, heirs)])


def all_labels(labels, heirs):
    """A list of the labels of 0 beats, 1 beat and so on, as long as one beat more tells anything apart."""
    told = []
    following = labelled(labels)
    while not told or max(following) > max(told[-1]):
        told.append(following)
        following = next_labels(following, heirs)
    return told


def labels_of(work, windows):
    """The rows of all beginnings, rising, and their labels of 0 beats, 1 beat and so on."""
    stands = all_stands(work)
    told = all_labels(shown_labels(work, stands, windows), heirs_of(work, stands))
    # Rests rise ahead of rows, so the beginnings are the first of all stands.
    rows = [rows for rest, rows in stands if rest == 0]
    return rows, [labels[:len(rows)] for labels in told]


def classes(work, windows):
    """A list of lists of the beginnings that the windows never tell apart."""
    rows, told = labels_of(work, windows)
    found = {}
    for each, label in zip(rows, told[-1]):
        found.setdefault(label, []).append(each)
    return list(found.values())


def newly_apart(elders, labels):
    """The numbers of two that have like elder labels and unlike labels, or None."""
    firsts = {}
    for number, (elder, label) in enumerate(zip(elders, labels)):
        one = firsts.setdefault(elder, number)
        if labels[one] != label:
            return (one, number)
    return None


def hardest(work, windows):
    """(beats, one, other): two beginnings that are told apart behind the most beats, or (0, None, None)."""
    rows, told = labels_of(work, windows)
    elders = [0 for _ in rows]
    found = (0, None, None)
    for beats, labels in enumerate(told):
        pair = newly_apart(elders, labels)
        if pair is not None:
            found = (beats, rows[pair[0]], rows[pair[1]])
        elders = labels
    return found


def for_ever(work, other, windows):
    """("alike",) where the windows show the same in both works for ever, or ("apart", beats, rows)."""
    stands = all_stands(work)
    stands_there = all_stands(other)
    many = len(stands)
    shown = shown_labels(work, stands, windows) + shown_labels(other, stands_there, windows)
    heirs = heirs_of(work, stands) + [many + heir for heir in heirs_of(other, stands_there)]
    for beats, labels in enumerate(all_labels(shown, heirs)):
        for number, (rest, rows) in enumerate(stands):
            if rest == 0 and labels[number] != labels[many + number]:
                return ("apart", beats, rows)
    return ("alike",)
