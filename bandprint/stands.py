"""Stands of a hall: a beginning, what hands did since, and what was looked at."""

from bandprint.courses import Course
from bandprint.rounds import behind
from bandprint.signs import DEEPEST

MOST_LOOKS = 30


class Stand:
    """A stand; it never changes, what is done to it makes another one."""

    def __init__(self, work_name, begin, rows_at_begin, *, beat, rows_now, hand_puts=(), hand_lifts=(), past_looks=()):
        self.work_name = work_name
        self.begin = begin
        self.rows_at_begin = rows_at_begin
        self.beat = beat
        self.rows_now = rows_now
        self.hand_puts = hand_puts
        self.hand_lifts = hand_lifts
        self.past_looks = past_looks

    def __eq__(self, other):
        return (isinstance(other, Stand) and self.work_name == other.work_name and self.begin == other.begin
                and self.rows_at_begin == other.rows_at_begin and self.beat == other.beat
                and self.rows_now == other.rows_now and self.hand_puts == other.hand_puts
                and self.hand_lifts == other.hand_lifts and self.past_looks == other.past_looks)

    def with_more(self, *, hand_puts=(), hand_lifts=(), past_looks=()):
        """The stand with more puts, lifts and looks."""
        return Stand(self.work_name, self.begin, self.rows_at_begin, beat=self.beat, rows_now=self.rows_now,
                     hand_puts=self.hand_puts + hand_puts, hand_lifts=self.hand_lifts + hand_lifts,
                     past_looks=self.past_looks + past_looks)

    def come_to(self, beat, rows):
        """The stand when it has come to a beat and to these rows."""
        return Stand(self.work_name, self.begin, self.rows_at_begin, beat=beat, rows_now=rows,
                     hand_puts=self.hand_puts, hand_lifts=self.hand_lifts, past_looks=self.past_looks)

    def near_looks(self):
        """A list of the looks at most DEEPEST beats behind begin."""
        return [look for look in self.past_looks if look[0] <= self.begin + DEEPEST]


def begun_stand(work_name, begin, rows):
    """A stand at its beginning."""
    return Stand(work_name, begin, rows, beat=begin, rows_now=rows)


def course_of(stand, work):
    """The course of a stand by a work."""
    return Course(work, puts=stand.hand_puts, lifts=stand.hand_lifts)


def run_to(stand, work, beat):
    """The stand run by a work from its beginning to a beat."""
    rows = behind(course_of(stand, work), stand.rows_at_begin, beat - stand.begin, begin=stand.begin)
    return stand.come_to(beat, rows)


def signs_looked_at(stand, work):
    """What a work, by which the stand may be run to its beat, shows at each of its looks."""
    course = course_of(stand, work)
    beat, rows = stand.begin, stand.rows_at_begin
    told = []
    for at, place, _ in stand.past_looks:
        # On from look to look: what goes through from the beginning to the stand's beat does so in parts, too.
        rows = behind(course, rows, at - beat, begin=beat)
        beat = at
        told.append("".join(rows)[work.place_in(place)])
    return told
