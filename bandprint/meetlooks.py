"""A look at papers of meetings: whether a thing, whoever wrote it, tells behind how many beats all wishes stand."""

from math import gcd

from bandprint.beats import run
from bandprint.courses import Course
from bandprint.firsts import numbered
from bandprint.meets import Numbers, how_many_rows, met_ahead, parts_of, rows_of_rests, told_by_rows, told_row
from bandprint.rows import need_rows
from bandprint.signs import LONGEST, is_just, is_within


def need_case(case):
    """Refuse a case whose rows are none of its work, or whose wish names a place that isn't there."""
    work, rows, _, wish = case
    need_rows(work, rows)
    numbered(work, wish)


def comes_again(case, first, many):
    """Whether things, of anything, are a number from which on a case's stands come again, and by how many beats."""
    if not is_within(first, 0, LONGEST) or not is_within(many, 1, LONGEST - first):
        return False
    work, rows, begin, _ = case
    stands = run(Course(work), rows, first + many, begin=begin)
    return many % work.common() == 0 and stands[first] == stands[first + many]


def are_parts(cases, thing):
    """Whether a thing, of anything, is a list of parts whose froms and rounds are right for the cases."""
    if not isinstance(thing, list) or len(thing) != len(cases):
        return False
    for case, part in zip(cases, thing):
        if not isinstance(part, tuple) or len(part) != 3 or not comes_again(case, part[0], part[1]):
            return False
    return True


def is_row(thing, rests, rounds, top):
    """Whether a thing, of anything, is what may be told of a row of rests; any two that part it may be named."""
    due = told_row(rests, rounds, top)
    if due[1] == "least":
        return is_just(thing, due)
    if not isinstance(thing, tuple) or len(thing) != 4 or not is_just(thing[:2], due[:2]):
        return False
    one, other = thing[2:]
    if not is_within(other, 0, len(rests) - 1) or not is_within(one, 0, other - 1):
        return False
    return (rests[one] - rests[other]) % gcd(rounds[one], rounds[other]) != 0


def are_rows_of(parts, top, thing):
    """Whether a thing, of anything, is a list of what is told of all rows of rests, in order."""
    # Asked ahead of all: there may be far more rows of rests than anybody writes.
    if not isinstance(thing, list) or len(thing) != how_many_rows(parts):
        return False
    rounds = [many for _, many, _ in parts]
    return all([is_row(row, rests, rounds, top) for row, rests in zip(thing, rows_of_rests(parts))])


def is_paper(cases, thing, parts, rows):
    """Whether a thing is the paper of the cases by these parts and rows, of anything."""
    if not are_parts(cases, parts):
        return False
    found = [Numbers(case, first, many) for case, (first, many, _) in zip(cases, parts)]
    top = max([each.first for each in found])
    if not is_just(parts, parts_of(found, top)):
        return False
    early = met_ahead(found, top)
    if early is not None:
        return is_just(thing, ("at", early, parts, []))
    return are_rows_of(parts, top, rows) and is_just(thing, told_by_rows(parts, rows))


def shows_meeting(cases, thing):
    """Whether a thing, of anything, is a paper of the meeting of some cases."""
    for case in cases:
        need_case(case)
    if not isinstance(thing, tuple) or not 3 <= len(thing) <= 4:
        return False
    return is_paper(cases, thing, thing[-2], thing[-1])
