"""The refusals: each is made of its fields, of anything, and tells them.

Each has a message of its own, for else Python would keep the very things that were handed in beside the copies.
"""


def copied(thing):
    """A copy of a thing, all lists, tuples and dicts in it copied too; what never changes is kept as it is."""
    if isinstance(thing, list):
        return [copied(each) for each in thing]
    if isinstance(thing, tuple):
        return tuple([copied(each) for each in thing])
    if isinstance(thing, dict):
        return {key: copied(thing[key]) for key in thing}
    return thing


class NoBand(ValueError):
    """A band's field ("name", "long" or "pace") isn't as told."""

    def __init__(self, field):
        super().__init__("no such band: this field isn't as told")
        self.field = copied(field)


class NoPress(ValueError):
    """A press's field isn't as told, or "press": there is no press of that number."""

    def __init__(self, field):
        super().__init__("no such press: this field isn't as told")
        self.field = copied(field)


class NoWork(ValueError):
    """A work's field ("signs", "bands" or "presses") isn't as told."""

    def __init__(self, field):
        super().__init__("no such work: this field isn't as told")
        self.field = copied(field)


class NoCourse(ValueError):
    """A course's field ("work", "puts" or "lifts") isn't as told."""

    def __init__(self, field):
        super().__init__("no such course: this field isn't as told")
        self.field = copied(field)


class NoRows(ValueError):
    """No rows of the work: the first band whose text isn't so, or -1."""

    def __init__(self, number):
        super().__init__("no rows of the work")
        self.number = copied(number)


class NoSign(ValueError):
    """No sign of the work."""

    def __init__(self, sign):
        super().__init__("no sign of the work")
        self.sign = copied(sign)


class NoSide(ValueError):
    """No side of a press."""

    def __init__(self, side):
        super().__init__("no side of a press")
        self.side = copied(side)


class NoSight(ValueError):
    """The sighting of this number isn't as told, or -1: there is no list of them."""

    def __init__(self, number):
        super().__init__("no sightings of the course")
        self.number = copied(number)


class NoLook(ValueError):
    """No look."""

    def __init__(self, look):
        super().__init__("no look at the course")
        self.look = copied(look)


class Lossy(ValueError):
    """The press of this number doesn't turn one to one."""

    def __init__(self, press):
        super().__init__("a press that doesn't turn one to one")
        self.press = copied(press)


class Unread(ValueError):
    """A text that isn't as written: the row and the word in it."""

    def __init__(self, row, word):
        super().__init__("a text that isn't as written")
        self.row = copied(row)
        self.word = copied(word)


class NoDeed(ValueError):
    """No deed, at this number of those handed in."""

    def __init__(self, at):
        super().__init__("no deed of a hall")
        self.at = copied(at)


class NoAsk(ValueError):
    """No text that a desk answers."""

    def __init__(self, row):
        super().__init__("no text that a desk answers")
        self.row = copied(row)


class NoPlace(KeyError):
    """No place of the work."""

    def __init__(self, place):
        super().__init__("no place of the work")
        self.place = copied(place)


class NoChange(KeyError):
    """No change of the work."""

    def __init__(self, change):
        super().__init__("no change of the work")
        self.change = copied(change)


class NoName(KeyError):
    """Nothing of the sort has this name."""

    def __init__(self, name):
        super().__init__("nothing of the sort has this name")
        self.name = copied(name)


class Taken(KeyError):
    """Something has this name already."""

    def __init__(self, name):
        super().__init__("something has this name already")
        self.name = copied(name)


class NoBeat(IndexError):
    """No beat that is answered for."""

    def __init__(self, beat):
        super().__init__("no beat that is answered for")
        self.beat = copied(beat)


class Early(IndexError):
    """More beats back than there are ahead of begin."""

    def __init__(self, begin):
        super().__init__("more beats back than there are ahead of begin")
        self.begin = copied(begin)


class NotOne(LookupError):
    """A map that isn't one to one: none becomes this sign."""

    def __init__(self, sign):
        super().__init__("a map that isn't one to one")
        self.sign = copied(sign)


class Seen(LookupError):
    """A look, of this number, of the stand of this name would be told otherwise."""

    def __init__(self, name, number):
        super().__init__("a look that would be told otherwise")
        self.name = copied(name)
        self.number = copied(number)


class OtherWork(LookupError):
    """Two works that are unlike in this part."""

    def __init__(self, part):
        super().__init__("two works that are unlike")
        self.part = copied(part)


class Needed(RuntimeError):
    """A work that a stand still runs."""

    def __init__(self, name, by):
        super().__init__("a work that a stand still runs")
        self.name = copied(name)
        self.by = copied(by)


class Full(RuntimeError):
    """A stand that takes no more."""

    def __init__(self, name):
        super().__init__("a stand that takes no more")
        self.name = copied(name)


class TooLong(ArithmeticError):
    """More beats than are gone through one by one."""

    def __init__(self, beats):
        super().__init__("too many beats to be gone through one by one")
        self.beats = copied(beats)


class TooMany(ArithmeticError):
    """More than are gone through one by one."""

    def __init__(self, many):
        super().__init__("too many to be gone through one by one")
        self.many = copied(many)


class Unfit(ArithmeticError):
    """What doesn't fit the work or stand of this name."""

    def __init__(self, name):
        super().__init__("what doesn't fit the work or stand")
        self.name = copied(name)
