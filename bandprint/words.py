"""Words of written texts: the rows that they stand in, the numbers among them, and which may stand where."""

from bandprint.errors import Unread
from bandprint.signs import are_letters

_FIGURES = "0123456789"
_MOST_FIGURES = 61


def rows_in(text):
    """The rows of a text, each a list of its words; what is no text is refused."""
    if not isinstance(text, str):
        raise Unread(0, 0)
    return [row.split(" ") for row in text.split("\n")]


def is_number(word):
    """Whether a word is a number from 0 on, without a nought ahead, of not too many figures."""
    if not 1 <= len(word) <= _MOST_FIGURES or not all([figure in _FIGURES for figure in word]):
        return False
    return word == "0" or word[0] != "0"


def is_number_so(word, is_so):
    """Whether a word is a whole number, `-` ahead of one below 0, that is so."""
    figures = word
    if word.startswith("-") and word != "-0":
        figures = word[1:]
    return is_number(figures) and is_so(int(word))


def is_letter(word):
    """Whether a word is one small letter."""
    return are_letters(word) and len(word) == 1


def is_rising(word):
    """Whether a word is one to four unlike small letters, rising."""
    if not are_letters(word) or not 1 <= len(word) <= 4:
        return False
    return all([word[at - 1] < word[at] for at in range(1, len(word))])


def need_words(row, words, fits):
    """Refuse the words of a row behind its first one; fits tells, place by place, which may stand there."""
    for at, fit in enumerate(fits, start=1):
        if at >= len(words) or not fit(words[at]):
            raise Unread(row, at)
    if len(words) > len(fits) + 1:
        raise Unread(row, len(fits) + 1)
