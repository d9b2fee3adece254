"""What a desk is asked: texts, told apart by the words of their first row."""

from bandprint.courses import is_lift_beat, is_lift_word
from bandprint.deeds import is_press_number
from bandprint.errors import NoAsk
from bandprint.signs import is_name
from bandprint.words import is_letter, is_number_so

_MOST_PARTS = 4
_WITH_TEXT = ("work", "change", "stand")
_PART = ("name", "number", "sign")
WISHES = {"first": ("name",), "fewest": ("name", "number")}
FORMS = {
    "work": ("name",), "change": ("name",), "stand": ("name", "name", "number"), "twin": ("name", "name"),
    "run": ("name", "number"), "put": ("name", "name", "number", "sign"), "lift": ("name", "press", "updown"),
    "drop": ("name",), "look": ("name", "name", "number"), "undo": (), "redo": (), "names": (), "beat": ("name",),
    "rows": ("name",), "looks": ("name",), "many": ("name",), "sure": ("name",),
}


def fits_kind(word, kind):
    """Whether a word is of a kind."""
    if kind == "name":
        return is_name(word)
    if kind == "number":
        return is_number_so(word, is_lift_beat)
    if kind == "press":
        return is_number_so(word, is_press_number)
    if kind == "sign":
        return is_letter(word)
    return is_lift_word(word)


def worth_of(word, kind):
    """What a word of a kind says: a number or the word."""
    if kind in ("number", "press"):
        return int(word)
    return word


def form_of(words):
    """The kinds of the words behind the first one, or None where there is no such text."""
    if words[0] in FORMS:
        return FORMS[words[0]]
    if words[0] not in WISHES:
        return None
    parts = (len(words) - 1 - len(WISHES[words[0]])) // len(_PART)
    return WISHES[words[0]] + _PART * max(1, min(parts, _MOST_PARTS))


def fits_form(words, form):
    """Whether the words behind the first one are of just these kinds."""
    if len(words) != len(form) + 1:
        return False
    return all([fits_kind(word, kind) for word, kind in zip(words[1:], form)])


def ask_of(row):
    """(word, worths, text): the first word, what those behind it say, and the text behind the first row."""
    if not isinstance(row, str):
        raise NoAsk(row)
    head, feed, text = row.partition("\n")
    words = head.split(" ")
    form = form_of(words)
    if form is None or not fits_form(words, form) or (feed == "\n") != (words[0] in _WITH_TEXT):
        raise NoAsk(row)
    return words[0], [worth_of(word, kind) for word, kind in zip(words[1:], form)], text
