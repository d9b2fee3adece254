"""Rows: the signs that stand on a work's bands, a text for each."""

from bandprint.errors import NoRows, NoSign
from bandprint.signs import is_sign


def is_text_for(band, signs, thing):
    """Whether a thing is a text as long as the band, of signs."""
    if not isinstance(thing, str) or len(thing) != band.long():
        return False
    return all([sign in signs for sign in thing])


def need_rows(work, rows):
    """Refuse what are no rows of the work."""
    bands = work.bands()
    if not isinstance(rows, tuple) or len(rows) != len(bands):
        raise NoRows(-1)
    for number, band in enumerate(bands):
        if not is_text_for(band, work.signs(), rows[number]):
            raise NoRows(number)


def are_rows(work, thing):
    """Whether a thing, of anything, is rows of the work."""
    try:
        need_rows(work, thing)
    except NoRows:
        return False
    return True


def rows_of(work, signs):
    """The rows of a list of signs, one for each place of the work in order."""
    texts = []
    start = 0
    for band in work.bands():
        texts.append("".join(signs[start:start + band.long()]))
        start += band.long()
    return tuple(texts)


def sign_at(work, rows, place):
    """The sign that stands at a place."""
    need_rows(work, rows)
    number = work.place_in(place)
    return "".join(rows)[number]


def with_sign(work, rows, place, sign):
    """Rows like these with another sign at a place."""
    need_rows(work, rows)
    number = work.place_in(place)
    if not is_sign(work.signs(), sign):
        raise NoSign(sign)
    signs = list("".join(rows))
    signs[number] = sign
    return rows_of(work, signs)
