"""Halls written in rows of words and read again, block by block: the works, then the stands."""

from bandprint.errors import Unread
from bandprint.hall import hall_of
from bandprint.signs import is_name, is_sign
from bandprint.stands import MOST_LOOKS, Stand, run_to, signs_looked_at
from bandprint.texts import band_rows, hand_rows, hands_in, lift_beat_word, show_place, texts_in, work_in, work_rows
from bandprint.words import is_letter, is_number, need_words, rows_in


def stand_rows(hall, name):
    """The rows of a stand."""
    work_name, begin, beat = hall.stand(name)
    rows = [f"stand {name} {work_name} {begin} {beat}"]
    rows.extend(band_rows(hall.work(work_name), hall.beginning(name)))
    rows.extend(hand_rows(hall.course(name)))
    rows.extend([f"look {at} {show_place(place)} {sign}" for at, place, sign in hall.looks(name)])
    return rows


def show_hall(hall):
    """A hall as a text."""
    works = []
    stands = []
    for name in hall.names():
        if hall.sort_of(name) == "work":
            works.extend([f"work {name}", *work_rows(hall.work(name))])
        else:
            stands.extend(stand_rows(hall, name))
    return "\n".join(works + stands)


def need_head(works, stands, words, row):
    """Refuse a block's first row, of this number, behind works and stands that are read already."""
    if words[0] == "work" and not stands:
        need_words(row, words, [is_name])
    elif words[0] == "stand":
        need_words(row, words, [is_name, is_name, lift_beat_word, lift_beat_word])
    else:
        raise Unread(row, 0)
    if words[1] in works or words[1] in stands:
        raise Unread(row, 1)
    if words[0] == "stand" and words[2] not in works:
        raise Unread(row, 2)
    if words[0] == "stand" and int(words[4]) < int(words[3]):
        raise Unread(row, 4)


def need_rising(rows, first, least, most):
    """Refuse the first of rows, counted from first on, whose beat is below that of the one ahead, or out of bounds."""
    for row, words in enumerate(rows, start=first):
        if not least <= int(words[1]) <= most:
            raise Unread(row, 1)
        least = int(words[1])


def look_in(work, words, row):
    """The look that the words of a row of this number write."""
    if words[0] != "look":
        raise Unread(row, 0)
    need_words(row, words, [lift_beat_word, is_name, is_number, is_letter])
    _, beat, name, number, sign = words
    if name not in [band.called() for band in work.bands()]:
        raise Unread(row, 2)
    if not work.has_place((name, int(number))):
        raise Unread(row, 3)
    if not is_sign(work.signs(), sign):
        raise Unread(row, 4)
    return (int(beat), (name, int(number)), sign)


def looks_in(work, rows, first, begin, beat):
    """The looks, from begin to a beat, that rows write, counted from first on."""
    found = []
    for row, words in enumerate(rows, start=first):
        found.append(look_in(work, words, row))
        if len(found) > MOST_LOOKS:
            raise Unread(row, 0)
    need_rising(rows, first, begin, beat)
    return found


def hands_of(work, rows, first, begin, beat):
    """(puts, lifts), tuples, of a stand from begin to a beat, that rows write, counted from first on."""
    course = hands_in(work, rows, first=first)
    puts, lifts = course.puts(), course.lifts()
    need_rising(rows[:len(puts)], first, begin + 1, beat + 1)
    need_rising(rows[len(puts):], first + len(puts), begin, beat)
    return tuple(puts), tuple(lifts)


def first_look(rows):
    """The number of the first of rows that writes a look, how many rows there are where none does."""
    words = [each[0] for each in rows]
    if "look" not in words:
        return len(rows)
    return words.index("look")


def stand_in(works, rows, first):
    """The stand that a block's rows write, its first row of this number in the whole text."""
    work = works[rows[0][2]]
    begin, beat = int(rows[0][3]), int(rows[0][4])
    hands = 1 + len(work.bands())
    looks = max(hands, first_look(rows))
    beginning = texts_in(work, rows[1:hands], first=first + 1)
    puts, lifts = hands_of(work, rows[hands:looks], first + hands, begin, beat)
    told = looks_in(work, rows[looks:], first + looks, begin, beat)
    stand = run_to(Stand(rows[0][2], begin, beginning, beat=begin, rows_now=beginning, hand_puts=puts,
                         hand_lifts=lifts, past_looks=tuple(told)), work, beat)
    for row, sign in enumerate(signs_looked_at(stand, work)):
        if sign != told[row][2]:
            raise Unread(first + looks + row, 4)
    return stand


def block_ends(rows):
    """The numbers of the rows ahead of which a block ends."""
    return [row for row, words in enumerate(rows) if row > 0 and words[0] in ("work", "stand")] + [len(rows)]


def read_hall(text):
    """The hall that a text writes; nothing is to be undone in it."""
    works, stands = {}, {}
    if text == "":
        return hall_of(works, stands)
    rows = rows_in(text)
    start = 0
    for end in block_ends(rows):
        words = rows[start]
        need_head(works, stands, words, start)
        if words[0] == "work":
            works[words[1]] = work_in(rows[start + 1:end], first=start + 1)
        else:
            stands[words[1]] = stand_in(works, rows[start:end], start)
        start = end
    return hall_of(works, stands)
