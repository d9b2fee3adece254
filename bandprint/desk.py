"""The desk: a hall that is told what to do, and asked, by texts."""

from bandprint.asks import ask_of
from bandprint.errors import Unfit
from bandprint.firsts import first_seen
from bandprint.hall import Hall
from bandprint.puts import fewest_puts
from bandprint.signs import is_sign
from bandprint.texts import read_rows, read_work, show_place


def or_none(answer):
    """An answer, or the word for one that tells nothing."""
    if answer == "":
        return "none"
    return answer


def ok_or_none(is_done):
    """The answer to what is done, or isn't."""
    if is_done:
        return "ok"
    return "none"


def undone(hall):
    """The answer to `undo`."""
    return ok_or_none(hall.undo())


def redone(hall):
    """The answer to `redo`."""
    return ok_or_none(hall.redo())


def all_names(hall):
    """The answer to `names`."""
    return or_none(" ".join(hall.names()))


def beat_of(hall, name):
    """The answer to `beat`."""
    _, _, beat = hall.stand(name)
    return str(beat)


def rows_now(hall, name):
    """The answer to `rows`."""
    rows = hall.rows(name)
    bands = hall.course(name).work().bands()
    return ", ".join([f"{band.called()} {text}" for band, text in zip(bands, rows)])


def all_looks(hall, name):
    """The answer to `looks`."""
    return or_none(", ".join([f"{beat} {show_place(place)} {sign}" for beat, place, sign in hall.looks(name)]))


def many_beginnings(hall, name):
    """The answer to `many`."""
    return str(hall.how_many(name))


def sure_places(hall, name):
    """The answer to `sure`."""
    return or_none(", ".join([f"{show_place(place)} {sign}" for place, sign in hall.sure(name)]))


def wish_of(hall, name, words):
    """The wish of a stand that words tell by threes, refused where it doesn't fit the stand."""
    work = hall.course(name).work()
    wish = [((words[at], words[at + 1]), words[at + 2]) for at in range(0, len(words), 3)]
    for place, sign in wish:
        if not work.has_place(place) or not is_sign(work.signs(), sign):
            raise Unfit(name)
    return wish


def first_time(hall, name, *words):
    """The answer to `first`."""
    wish = wish_of(hall, name, words)
    _, _, beat = hall.stand(name)
    told = first_seen(hall.course(name), hall.rows(name), wish, begin=beat)
    if told[0] == "never":
        return "never"
    return str(told[1])


def fewest_price(hall, name, beats, *words):
    """The answer to `fewest`."""
    wish = wish_of(hall, name, words)
    _, _, beat = hall.stand(name)
    told = fewest_puts(hall.course(name), hall.rows(name), wish, beats, begin=beat)
    if told[0] == "never":
        return "never"
    return str(told[1])


ANSWERS = {"undo": undone, "redo": redone, "names": all_names, "beat": beat_of, "rows": rows_now, "looks": all_looks,
           "many": many_beginnings, "sure": sure_places, "first": first_time, "fewest": fewest_price}


def deed_of(hall, word, worths, text):
    """The deed that a text asks for by its first word, what the words behind it say, and the text behind these."""
    if word in ("work", "change"):
        return (word, worths[0], read_work(text))
    if word == "stand":
        # Rows are read by their work, so a strange one goes ahead of a text that isn't as written.
        return (word, *worths, read_rows(hall.work(worths[1]), text))
    if word in ("put", "look"):
        name, band, number, *sign = worths
        return (word, name, (band, number), *sign)
    return (word, *worths)


class Desk:
    """A hall that answers texts."""

    def __init__(self):
        self._hall = Hall()

    def __eq__(self, other):
        return isinstance(other, Desk) and self._hall == other._hall

    def say(self, row):
        """The answer to a text."""
        word, worths, text = ask_of(row)
        if word in ANSWERS:
            answer = ANSWERS[word]
            return answer(self._hall, *worths)
        told = self._hall.do(deed_of(self._hall, word, worths, text))
        if told is None:
            return "ok"
        return told
