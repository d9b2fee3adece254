"""Plans: what a course does beat by beat behind begin, told by the places of the beginning.

A band goes round as a whole, so what stood at a place of the beginning is found again by the pace alone. A plan names
it by that place's number among all places, and so nothing has to be moved.
"""

from bandprint.beats import presses_at
from bandprint.passes import where


def turns_of(signs, table):
    """A press's table by the sign above, then by the sign below."""
    return {above: {below: text[at] for at, below in enumerate(signs)} for above, text in zip(signs, table)}


class Plan:
    """What a course does at each of so many beats behind begin."""

    def __init__(self, course, begin, beats):
        self._course = course
        self._begin = begin
        behind = range(begin + 1, begin + beats + 1)
        self._presses = {beat: self._presses_of(beat) for beat in behind}
        self._laid = {beat: self._laid_of(beat) for beat in behind}

    def _presses_of(self, beat):
        """The presses that work at a beat, as presses tells them."""
        presses = self._course.work().presses()
        return [(number, self.stood(beat, presses[number].above()), self.stood(beat, presses[number].below()))
                for number in presses_at(self._course, beat)]

    def _laid_of(self, beat):
        """What is laid at a beat, as laid tells it."""
        return [(self.stood(beat, place), sign) for place, sign in self._course.laid(beat)]

    def course(self):
        """The course."""
        return self._course

    def work(self):
        """The course's work."""
        return self._course.work()

    def start(self):
        """The beat behind which the beginning stands."""
        return self._begin

    def stood(self, beat, place):
        """The number of the beginning's place at which stood what is at a place behind a beat."""
        work = self._course.work()
        return work.place_in(where(work, place, self._begin - beat))

    def presses(self, beat):
        """A list of (number, where its above stood, where its below stood) of the presses that work at a beat."""
        return list(self._presses[beat])

    def laid(self, beat):
        """A list of (where it stood, sign) that is laid at a beat."""
        return list(self._laid[beat])

    def turns(self):
        """For each press its table by the sign above, then by the sign below."""
        signs = self._course.work().signs()
        return [turns_of(signs, press.table()) for press in self._course.work().presses()]
