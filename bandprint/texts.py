"""Works, courses, rows and trees, written in rows of words and read again."""

from bandprint.bands import Band, Press, Work, is_long, is_pace, is_rhythm, is_side_number
from bandprint.courses import Course, is_lift_beat, is_lift_word, is_put_beat
from bandprint.errors import NoCourse, NoWork, Unread
from bandprint.rows import is_text_for, need_rows
from bandprint.signs import are_letters, are_signs, is_name
from bandprint.words import is_letter, is_number, is_number_so, is_rising, need_words, rows_in

_WORK_WORDS = ("signs", "band", "press")
_HAND_WORDS = ("put", "lift")
_COURSE_WORDS = ("signs", "band", "press", "put", "lift")


def show_place(place):
    """A place's two words."""
    name, number = place
    return f"{name} {number}"


def work_rows(work):
    """The rows of a work."""
    rows = [f"signs {work.signs()}"]
    for band in work.bands():
        rows.append(f"band {band.called()} {band.long()} {band.pace()}")
    for press in work.presses():
        places = f"{show_place(press.above())} {show_place(press.below())}"
        rows.append(f"press {places} {press.rhythm()} " + " ".join(press.table()))
    return rows


def show_work(work):
    """A work as a text."""
    return "\n".join(work_rows(work))


def hand_rows(course):
    """The rows of a course's puts, then of its lifts."""
    puts = [f"put {beat} {show_place(place)} {sign}" for beat, place, sign in course.puts()]
    lifts = [f"lift {beat} {press} {word}" for beat, press, word in course.lifts()]
    return puts + lifts


def show_course(course):
    """A course as a text."""
    return "\n".join(work_rows(course.work()) + hand_rows(course))


def band_rows(work, rows):
    """The rows that write rows of a work."""
    need_rows(work, rows)
    return [f"row {band.called()} {text}" for band, text in zip(work.bands(), rows)]


def show_rows(work, rows):
    """Rows of a work as a text."""
    return "\n".join(band_rows(work, rows))


def show_node(node):
    """A tree's node as a row."""
    if node[0] == "fits":
        return "fits"
    if node[0] == "clashes":
        return f"clashes {node[1]}"
    return f"split {show_place(node[1])} " + " ".join([f"{signs} {child}" for signs, child in node[2]])


def show_tree(nodes):
    """A tree's nodes as a text."""
    return "\n".join([show_node(node) for node in nodes])


def long_word(word):
    """Whether a word may tell how long a band is."""
    return is_number_so(word, is_long)


def pace_word(word):
    """Whether a word may be a band's pace."""
    return is_number_so(word, is_pace)


def side_word(word):
    """Whether a word may be the number of a press's place."""
    return is_number_so(word, is_side_number)


def first_text(word):
    """Whether a word may be a table's first text."""
    return are_letters(word) and 2 <= len(word) <= 4


def put_beat_word(word):
    """Whether a word may be a put's beat."""
    return is_number_so(word, is_put_beat)


def lift_beat_word(word):
    """Whether a word may be a lift's beat."""
    return is_number_so(word, is_lift_beat)


def table_fits(words):
    """What the texts of a press's words may be: the first one tells how many there are and how long each is."""
    long = 2
    if len(words) > 6 and first_text(words[6]):
        long = len(words[6])
    return [first_text] + [lambda word: are_letters(word) and len(word) == long] * (long - 1)


def fits_behind(words):
    """What may stand, place by place, behind the first of the words of a course's row."""
    if words[0] == "signs":
        return [are_signs]
    if words[0] == "band":
        return [is_name, long_word, pace_word]
    if words[0] == "press":
        return [is_name, side_word, is_name, side_word, is_rhythm] + table_fits(words)
    if words[0] == "put":
        return [put_beat_word, is_name, is_number, is_letter]
    return [lift_beat_word, is_number, is_lift_word]


def may_follow(word, last, order):
    """Whether a row of this first word may stand behind one of the last, None ahead of all."""
    if last is None:
        return word == "signs"
    if last == "signs":
        return word == "band"
    return word in order and order.index(word) >= order.index(last)


def words_in_order(rows, order, *, first=0, last=None):
    """The words of rows, counted from first on, by their first ones, refused with the first row that isn't so."""
    found = {word: [] for word in order}
    for row, words in enumerate(rows, start=first):
        if not may_follow(words[0], last, order):
            raise Unread(row, 0)
        need_words(row, words, fits_behind(words))
        last = words[0]
        found[last].append(words)
    return found


def band_of(words):
    """The band of a row's words."""
    return Band(words[1], int(words[2]), pace=int(words[3]))


def press_of(words):
    """The press of a row's words."""
    return Press((words[1], int(words[2])), (words[3], int(words[4])), tuple(words[6:]), rhythm=words[5])


def work_of(found):
    """The work of words by their first ones; of no words at all there is none."""
    signs = [words[1] for words in found["signs"]]
    bands = [band_of(words) for words in found["band"]]
    return Work("".join(signs), bands, [press_of(words) for words in found["press"]])


def work_in(rows, *, first=0):
    """The work that rows write, counted from first on."""
    found = words_in_order(rows, _WORK_WORDS, first=first)
    try:
        return work_of(found)
    except NoWork:
        raise Unread(first + len(rows), 0) from None


def read_work(text):
    """The work that a text writes."""
    return work_in(rows_in(text))


def puts_of(found):
    """The puts of words by their first ones."""
    return [(int(beat), (name, int(number)), sign) for _, beat, name, number, sign in found["put"]]


def lifts_of(found):
    """The lifts of words by their first ones."""
    return [(int(beat), int(press), word) for _, beat, press, word in found["lift"]]


def read_course(text):
    """The course that a text writes."""
    rows = rows_in(text)
    found = words_in_order(rows, _COURSE_WORDS)
    try:
        return Course(work_of(found), puts=puts_of(found), lifts=lifts_of(found))
    except (NoWork, NoCourse):
        raise Unread(len(rows), 0) from None


def hands_in(work, rows, *, first):
    """The course of a work with the puts and lifts that rows write, counted from first on."""
    found = words_in_order(rows, _HAND_WORDS, first=first, last=_HAND_WORDS[0])
    try:
        return Course(work, puts=puts_of(found), lifts=lifts_of(found))
    except NoCourse:
        raise Unread(first + len(rows), 0) from None


def row_fits(work, band):
    """What may stand behind the first word of a band's row."""
    return [
        lambda word: word == band.called(),
        lambda word: is_text_for(band, work.signs(), word),
    ]


def texts_in(work, rows, *, first=0):
    """The rows of a work that rows write, counted from first on."""
    bands = work.bands()
    for row, words in enumerate(rows):
        if row == len(bands) or words[0] != "row":
            raise Unread(first + row, 0)
        need_words(first + row, words, row_fits(work, bands[row]))
    if len(rows) < len(bands):
        raise Unread(first + len(rows), 0)
    return tuple([words[2] for words in rows])


def read_rows(work, text):
    """The rows of a work that a text writes."""
    return texts_in(work, rows_in(text))


def node_fits(words):
    """What may stand, place by place, behind the first of the words of a node's row."""
    if words[0] == "fits":
        return []
    if words[0] == "clashes":
        return [is_number]
    # A branch that lacks its second word, or the only one that lacks both, is asked for whole.
    branches = max(1, (len(words) - 2) // 2)
    return [is_name, is_number] + [is_rising, is_number] * branches


def node_of(words):
    """The node of a row's words."""
    if words[0] == "fits":
        return ("fits",)
    if words[0] == "clashes":
        return ("clashes", int(words[1]))
    parts = tuple([(words[at], int(words[at + 1])) for at in range(3, len(words), 2)])
    return ("split", (words[1], int(words[2])), parts)


def read_tree(text):
    """The list of nodes that a text writes; whether they are a tree isn't asked."""
    rows = rows_in(text)
    for row, words in enumerate(rows):
        if words[0] not in ("split", "fits", "clashes"):
            raise Unread(row, 0)
        need_words(row, words, node_fits(words))
    return [node_of(words) for words in rows]
