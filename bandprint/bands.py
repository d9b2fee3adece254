"""Bands, the presses beside them, and the works that they make."""

from math import lcm

from bandprint.errors import NoBand, NoPlace, NoPress, NoWork
from bandprint.signs import are_letters, are_signs, is_listed, is_name, is_place, is_within

_LONGEST_BAND = 12
_MOST_BANDS = 6
_MOST_PLACES = 40
_MOST_PRESSES = 8
_MOST_BEATS_OF_RHYTHM = 6
_FASTEST = 10 ** 12


def is_long(thing):
    """Whether a thing is a whole number of places that a band may have."""
    return is_within(thing, 1, _LONGEST_BAND)


def is_pace(thing):
    """Whether a thing is a whole number that a band may go on by at a beat."""
    return is_within(thing, -_FASTEST, _FASTEST)


class Band:
    """A ring of places that goes round by its pace."""

    def __init__(self, name, long, *, pace=0):
        if not is_name(name):
            raise NoBand("name")
        if not is_long(long):
            raise NoBand("long")
        if not is_pace(pace):
            raise NoBand("pace")
        self._name = name
        self._long = long
        self._pace = pace

    def __eq__(self, other):
        return (isinstance(other, Band) and self._name == other._name
                and self._long == other._long and self._pace == other._pace)

    def called(self):
        """The name."""
        return self._name

    def long(self):
        """How many places the ring has."""
        return self._long

    def pace(self):
        """The pace as it was told."""
        return self._pace


def is_side_number(thing):
    """Whether a thing is the number of a place at which a press may have a side."""
    return is_within(thing, 0, _LONGEST_BAND - 1)


def is_side(thing):
    """Whether a thing is a place at which a press may have a side."""
    return is_place(thing) and is_side_number(thing[1])


def is_table(thing):
    """Whether a thing is a tuple of two to four texts, each of as many small letters as there are texts."""
    if not isinstance(thing, tuple) or not 2 <= len(thing) <= 4:
        return False
    return all([are_letters(text) and len(text) == len(thing) for text in thing])


def is_rhythm(thing):
    """Whether a thing is a text of one to six of x and -."""
    if not isinstance(thing, str) or not 1 <= len(thing) <= _MOST_BEATS_OF_RHYTHM:
        return False
    return all([mark in "x-" for mark in thing])


class Press:
    """What turns the sign below by its table and the sign above."""

    def __init__(self, above, below, table, *, rhythm="x"):
        if not is_side(above):
            raise NoPress("above")
        if not is_side(below):
            raise NoPress("below")
        if not is_table(table):
            raise NoPress("table")
        if not is_rhythm(rhythm):
            raise NoPress("rhythm")
        self._above = above
        self._below = below
        self._table = table
        self._rhythm = rhythm

    def __eq__(self, other):
        return (isinstance(other, Press) and self._above == other._above and self._below == other._below
                and self._table == other._table and self._rhythm == other._rhythm)

    def above(self):
        """The place that is read."""
        return self._above

    def below(self):
        """The place that is turned."""
        return self._below

    def table(self):
        """The texts, one for each sign above."""
        return self._table

    def rhythm(self):
        """The beats at which the press is down, from the first beat on, over and over."""
        return self._rhythm


def are_bands(thing):
    """Whether a thing is a list or tuple of bands that one work may have."""
    if not is_listed(thing) or not 1 <= len(thing) <= _MOST_BANDS:
        return False
    if not all([isinstance(band, Band) for band in thing]):
        return False
    if len(set([band.called() for band in thing])) < len(thing):
        return False
    return sum([band.long() for band in thing]) <= _MOST_PLACES


def places_of(bands):
    """All places of the bands, by bands, then by numbers."""
    return [(band.called(), number) for band in bands for number in range(band.long())]


def band_called(work, name):
    """The band of a work that has this name."""
    return [band for band in work.bands() if band.called() == name][0]


def names_and_longs(work):
    """The bands' names and longs, in order."""
    return [(band.called(), band.long()) for band in work.bands()]


def is_press_for(thing, signs, places):
    """Whether a thing is a press at these places whose table turns these signs into these signs."""
    if not isinstance(thing, Press) or thing.above() not in places or thing.below() not in places:
        return False
    if len(thing.table()) != len(signs):
        return False
    return all([letter in signs for text in thing.table() for letter in text])


def are_presses(thing, signs, places):
    """Whether a thing is a list or tuple of presses that a work of these signs and places may have."""
    if not is_listed(thing) or len(thing) > _MOST_PRESSES:
        return False
    return all([is_press_for(press, signs, places) for press in thing])


class Work:
    """Signs, bands of them, and presses beside the bands."""

    def __init__(self, signs, bands, presses=()):
        if not are_signs(signs):
            raise NoWork("signs")
        if not are_bands(bands):
            raise NoWork("bands")
        if not are_presses(presses, signs, places_of(bands)):
            raise NoWork("presses")
        self._signs = signs
        self._bands = tuple(bands)
        self._presses = tuple(presses)
        self._places = places_of(bands)
        self._numbers = {place: number for number, place in enumerate(self._places)}

    def __eq__(self, other):
        return (isinstance(other, Work) and self._signs == other._signs
                and self._bands == other._bands and self._presses == other._presses)

    def __len__(self):
        return len(self._places)

    def signs(self):
        """The signs as they were told."""
        return self._signs

    def bands(self):
        """A list of the bands in their order."""
        return list(self._bands)

    def presses(self):
        """A list of the presses in their order."""
        return list(self._presses)

    def places(self):
        """A list of all places, by bands, then by numbers."""
        return list(self._places)

    def has_place(self, thing):
        """Whether a thing, of anything, is a place of this work."""
        # Only what is a place by its kind is looked up: a list can't be a key, and True would be found as 1.
        return is_place(thing) and thing in self._numbers

    def place_in(self, place):
        """The number of a place among all places."""
        if not self.has_place(place):
            raise NoPlace(place)
        return self._numbers[place]

    def has_press(self, thing):
        """Whether a thing, of anything, is the number of a press of this work."""
        return is_within(thing, 0, len(self._presses) - 1)

    def common(self):
        """The least common multiple of the lengths of all rhythms, 1 without presses."""
        many = 1
        for press in self._presses:
            many = lcm(many, len(press.rhythm()))
        return many
