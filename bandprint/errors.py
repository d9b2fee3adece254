"""The refusals: each is made of its fields, of anything, and tells them."""


class NoBand(ValueError):
    """A band's field ("name", "long" or "pace") isn't as told."""

    def __init__(self, field):
        self.field = field


class NoPress(ValueError):
    """A press's field isn't as told, or "press": there is no press of that number."""

    def __init__(self, field):
        self.field = field


class NoWork(ValueError):
    """A work's field ("signs", "bands" or "presses") isn't as told."""

    def __init__(self, field):
        self.field = field


class NoCourse(ValueError):
    """A course's field ("work", "puts" or "lifts") isn't as told."""

    def __init__(self, field):
        self.field = field


class NoRows(ValueError):
    """No rows of the work: the first band whose text isn't so, or -1."""

    def __init__(self, number):
        self.number = number


class NoSign(ValueError):
    """No sign of the work."""

    def __init__(self, sign):
        self.sign = sign


class NoSide(ValueError):
    """No side of a press."""

    def __init__(self, side):
        self.side = side


class NoSight(ValueError):
    """The sighting of this number isn't as told, or -1: there is no list of them."""

    def __init__(self, number):
        self.number = number


class NoLook(ValueError):
    """No look."""

    def __init__(self, look):
        self.look = look


class Lossy(ValueError):
    """The press of this number doesn't turn one to one."""

    def __init__(self, press):
        self.press = press


class Unread(ValueError):
    """A text that isn't as written: the row and the word in it."""

    def __init__(self, row, word):
        self.row = row
        self.word = word


class NoDeed(ValueError):
    """No deed, at this number of those handed in."""

    def __init__(self, at):
        self.at = at


class NoAsk(ValueError):
    """No text that a desk answers."""

    def __init__(self, row):
        self.row = row


class NoPlace(KeyError):
    """No place of the work."""

    def __init__(self, place):
        self.place = place


class NoChange(KeyError):
    """No change of the work."""

    def __init__(self, change):
        self.change = change


class NoName(KeyError):
    """Nothing of the sort has this name."""

    def __init__(self, name):
        self.name = name


class Taken(KeyError):
    """Something has this name already."""

    def __init__(self, name):
        self.name = name


class NoBeat(IndexError):
    """No beat that is answered for."""

    def __init__(self, beat):
        self.beat = beat


class Early(IndexError):
    """More beats back than there are ahead of begin."""

    def __init__(self, begin):
        self.begin = begin


class NotOne(LookupError):
    """A map that isn't one to one: none becomes this sign."""

    def __init__(self, sign):
        self.sign = sign


class Seen(LookupError):
    """A look, of this number, of the stand of this name would be told otherwise."""

    def __init__(self, name, number):
        self.name = name
        self.number = number


class OtherWork(LookupError):
    """Two works that are unlike in this part."""

    def __init__(self, part):
        self.part = part


class Needed(RuntimeError):
    """A work that a stand still runs."""

    def __init__(self, name, by):
        self.name = name
        self.by = by


class Full(RuntimeError):
    """A stand that takes no more."""

    def __init__(self, name):
        self.name = name


class TooLong(ArithmeticError):
    """More beats than are gone through one by one."""

    def __init__(self, beats):
        self.beats = beats


class TooMany(ArithmeticError):
    """More than are gone through one by one."""

    def __init__(self, many):
        self.many = many


class Unfit(ArithmeticError):
    """What doesn't fit the work or stand of this name."""

    def __init__(self, name):
        self.name = name
