"""Several stands: behind how many beats all their wishes stand at once."""

from math import gcd

from bandprint.beats import run
from bandprint.courses import Course
from bandprint.errors import TooMany
from bandprint.firsts import has_all, numbered
from bandprint.rounds import round_of
from bandprint.signs import MOST


class Numbers:
    """The numbers of a case: from the first one told on they come again by so many."""

    def __init__(self, case, first, many):
        work, rows, begin, wish = case
        parts = numbered(work, wish)
        stands = run(Course(work), rows, first + many - 1, begin=begin)
        self.first = first
        self.many = many
        self.met = [has_all(each, parts) for each in stands]

    def has_number(self, number):
        """Whether a number, from 0 on, is one of the case."""
        if number < self.first:
            return self.met[number]
        return self.met[self.first + (number - self.first) % self.many]

    def rests(self, top):
        """The rests behind top, which is no less than the first number that comes again."""
        return sorted([number % self.many for number in range(top, top + self.many) if self.has_number(number)])


def numbers_of(case):
    """The numbers of a case by its least first one and its least round."""
    work, rows, begin, _ = case
    first, many = round_of(Course(work), rows, begin=begin)
    return Numbers(case, first, many)


def inverse(number, many):
    """What, times the number, leaves 1 by many; the two have no common divisor."""
    elder, heir = many, number % many
    worth, worth_of_heir = 0, 1
    while heir:
        times = elder // heir
        elder, heir = heir, elder - times * heir
        worth, worth_of_heir = worth_of_heir, worth - times * worth_of_heir
    return worth % many


def least_with(rests, rounds, *, least=0):
    """The least number from least on that leaves the rests by the rounds, or None."""
    rest, many = 0, 1
    for told, length in zip(rests, rounds):
        common = gcd(many, length)
        if not 0 <= told < length or (told - rest) % common != 0:
            return None
        other = length // common
        rest += many * ((told - rest) // common * inverse(many // common, other) % other)
        many = many * other
    return least + (rest - least) % many


def parts_of(found, top):
    """What is told of each of some cases: (from, round, the rests behind top)."""
    return [(each.first, each.many, tuple(each.rests(top))) for each in found]


def met_ahead(found, top):
    """The least number below top that all of some cases have, or None."""
    for number in range(top):
        if all([each.has_number(number) for each in found]):
            return number
    return None


def how_many_rows(parts):
    """How many rows of one rest from each part there are."""
    many = 1
    for _, _, rests in parts:
        many = many * len(rests)
    return many


def rows_of_rests(parts):
    """All rows of one rest from each part, the first part's slowest."""
    rows = [()]
    for _, _, rests in parts:
        rows = [(*row, rest) for row in rows for rest in rests]
    return rows


def apart_in(rests, rounds):
    """The first two numbers of rests that are unlike by the greatest common divisor of their rounds, or None."""
    for one in range(len(rests)):
        for other in range(one + 1, len(rests)):
            if (rests[one] - rests[other]) % gcd(rounds[one], rounds[other]) != 0:
                return (one, other)
    return None


def told_row(rests, rounds, top):
    """What is told of a row of rests: what parts it, or the least number from top on."""
    apart = apart_in(rests, rounds)
    if apart is not None:
        return (rests, "apart", *apart)
    return (rests, "least", least_with(rests, rounds, least=top))


def told_by_rows(parts, rows):
    """What is told of parts of which no early number is one of all, by all rows of their rests."""
    leasts = [row[2] for row in rows if row[1] == "least"]
    if leasts:
        return ("at", min(leasts), parts, rows)
    return ("never", parts, rows)


def meeting(cases):
    """("at", n, parts, rows), the least number that is one of all cases, or ("never", parts, rows)."""
    found = [numbers_of(case) for case in cases]
    top = max([each.first for each in found])
    parts = parts_of(found, top)
    early = met_ahead(found, top)
    if early is not None:
        return ("at", early, parts, [])
    if how_many_rows(parts) > MOST:
        raise TooMany(MOST)
    rounds = [many for _, many, _ in parts]
    return told_by_rows(parts, [told_row(rests, rounds, top) for rests in rows_of_rests(parts)])


def next_numbers(found, top):
    """For each number below top the first number of a case from it on, or None."""
    told = []
    following = None
    for number in range(top + found.many - 1, -1, -1):
        if found.has_number(number):
            following = number
        if number < top:
            told.append(following)
    return told[::-1]


def starts_ahead(one, other, top):
    """Pairs (d, n) of the numbers n of the other case below top, d the least for each."""
    told = []
    for number, met in enumerate(next_numbers(one, top)):
        if met is not None and other.has_number(number):
            told.append((met - number, number))
    return told


def start_behind(one, other, top):
    """A list of the least (d, n) of numbers from top on, of none where one case has none there."""
    common = gcd(one.many, other.many)
    by_rest = {rest % common: rest for rest in one.rests(top)}
    rests = other.rests(top)
    for ahead in range(common):
        for rest in rests:
            if (rest + ahead) % common in by_rest:
                met = by_rest[(rest + ahead) % common]
                rounds = [other.many, one.many]
                return [(ahead, least_with([rest, (met - ahead) % one.many], rounds, least=top))]
    return []


def head_start(one, other):
    """("ahead", d, n), the least d for which n is a number of the other case and n + d of the first, or ("never",)."""
    first, second = numbers_of(one), numbers_of(other)
    top = max(first.first, second.first)
    told = starts_ahead(first, second, top) + start_behind(first, second, top)
    if not told:
        return ("never",)
    ahead, number = min(told)
    return ("ahead", ahead, number)
