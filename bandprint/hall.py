"""The hall: works and stands by names, in which all is done, looked at and undone."""

from bandprint.boxes import boxes, has, how_many, sure
from bandprint.deeds import is_deed
from bandprint.doings import done
from bandprint.errors import NoDeed, NoName
from bandprint.rows import are_rows
from bandprint.signs import is_name
from bandprint.stands import course_of
from bandprint.trees import tree_of


class Hall:
    """Works and stands by names, none twice, and what can be undone."""

    def __init__(self):
        self._works = {}
        self._stands = {}
        self._elder = []
        self._undone = []

    def __eq__(self, other):
        return isinstance(other, Hall) and self._works == other._works and self._stands == other._stands

    def __len__(self):
        return len(self.names())

    def do(self, deed):
        """Do a deed: None, or the sign that is looked at."""
        return self.several([deed])[0]

    def several(self, deeds):
        """Do all deeds of a list, one behind the other, or none: a list of what each tells."""
        if not isinstance(deeds, list):
            raise NoDeed(0)
        for at, deed in enumerate(deeds):
            if not is_deed(deed):
                raise NoDeed(at)
        if not deeds:
            return []
        works, stands = dict(self._works), dict(self._stands)
        told = [done(works, stands, deed) for deed in deeds]
        self._elder.append((self._works, self._stands))
        self._undone = []
        self._works, self._stands = works, stands
        return told

    def undo(self):
        """Take back what was done last and isn't undone; False where there is none."""
        return self._turn(self._elder, self._undone)

    def redo(self):
        """Do what was undone last once more; False where there is none, or where a deed was done since."""
        return self._turn(self._undone, self._elder)

    def _turn(self, source, goal):
        """Be as the last of the source was, and keep what is now as the last of the goal."""
        if not source:
            return False
        goal.append((self._works, self._stands))
        self._works, self._stands = source.pop()
        return True

    def _stand_called(self, name):
        """The stand of a name."""
        if not is_name(name) or name not in self._stands:
            raise NoName(name)
        return self._stands[name]

    def _work_of(self, name):
        """The work that a stand runs."""
        return self._works[self._stand_called(name).work_name]

    def _boxes(self, name):
        """The boxes of a stand's beginnings that its near looks let be."""
        return boxes(self._work_of(name), self.tree(name))

    def names(self):
        """A list of all names, rising."""
        return sorted([*self._works, *self._stands])

    def has(self, name):
        """Whether a thing, of anything, is the name of something."""
        return is_name(name) and (name in self._works or name in self._stands)

    def sort_of(self, name):
        """What a name is, "work" or "stand"."""
        if not self.has(name):
            raise NoName(name)
        if name in self._works:
            return "work"
        return "stand"

    def work(self, name):
        """The work of a name."""
        if not is_name(name) or name not in self._works:
            raise NoName(name)
        return self._works[name]

    def stand(self, name):
        """A stand's (work's name, begin, beat that it has come to)."""
        stand = self._stand_called(name)
        return (stand.work_name, stand.begin, stand.beat)

    def beginning(self, name):
        """A stand's rows at begin."""
        return self._stand_called(name).rows_at_begin

    def rows(self, name):
        """A stand's rows now."""
        return self._stand_called(name).rows_now

    def course(self, name):
        """A stand's course: its work with its puts and lifts."""
        return course_of(self._stand_called(name), self._work_of(name))

    def looks(self, name):
        """A list of a stand's looks, (beat, place, sign), in order."""
        return list(self._stand_called(name).past_looks)

    def tree(self, name):
        """The told tree of a stand's near looks, from its begin."""
        stand = self._stand_called(name)
        return tree_of(self.course(name), stand.near_looks(), begin=stand.begin)

    def how_many(self, name):
        """How many beginnings a stand's near looks let be."""
        return how_many(self._boxes(name))

    def sure(self, name):
        """A list of (place, sign) that a stand's near looks leave no doubt of at its beginning."""
        return sure(self._work_of(name), self._boxes(name))

    def may_be(self, name, rows):
        """Whether a thing, of anything, is a beginning that a stand's near looks let be."""
        found = self._boxes(name)
        work = self._work_of(name)
        return are_rows(work, rows) and has(work, found, rows)


def hall_of(works, stands):
    """A hall of these works and stands, dicts by their names, in which nothing is to be undone."""
    hall = Hall()
    hall._works = dict(works)
    hall._stands = dict(stands)
    return hall
