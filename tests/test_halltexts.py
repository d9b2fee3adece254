"""Halls written and read again, and what is refused of other texts."""

import unittest

from bandprint.bands import Band, Work
from bandprint.errors import Needed, TooLong, Unread
from bandprint.hall import Hall
from bandprint.halltexts import read_hall, show_hall
from bandprint.texts import show_work
from tests import test_hall
from tests.samples import FAR, Refusals, chances, odd_things, one_marked, small_work, some_rows, some_work, wheels
from tests.test_hall import ROWS, SPOT, TOP, all_of, hall_of, small_hall
from tests.test_rounds import LONG
from tests.test_texts import FIGURES, SMALL

# By rows: 0 work w, 1 to 4 its rows, 5 work b, 6 and 7 its rows, 8 stand s, 9 and 10 its beginning, 11 to 13 its
# puts, 14 and 15 its lifts, 16 to 18 its looks, 19 stand a, 20 its beginning.
TEXT = """work w
signs ab
band one 3 1
band two 4 -1
press one 0 two 0 x ab ba
work b
signs acz
band one 2 0
stand s w 5 9
row one aba
row two abba
put 6 two 1 a
put 8 one 0 b
put 10 one 0 a
lift 5 0 up
lift 9 0 down
look 5 two 1 b
look 8 one 0 b
look 8 one 0 b
stand a b 0 0
row one za"""
WORKS, STANDS = TEXT.split("\n")[:8], TEXT.split("\n")[8:]


def told_hall():
    """The hall that the text above writes."""
    return hall_of(("work", "w", small_work()), ("work", "b", Work("acz", [Band("one", 2)])),
                   ("stand", "s", "w", 5, ROWS), ("stand", "a", "b", 0, ("za",)),
                   ("lift", "s", 0, "up"), ("put", "s", SPOT, "a"), ("look", "s", SPOT), ("run", "s", 2),
                   ("put", "s", TOP, "b"), ("run", "s", 1), ("look", "s", TOP), ("look", "s", TOP), ("run", "s", 1),
                   ("put", "s", TOP, "a"), ("lift", "s", 0, "down"))


def with_rows(first, many, *rows):
    """The text with other rows for so many of its rows."""
    told = TEXT.split("\n")
    return "\n".join(told[:first] + list(rows) + told[first + many:])


class Written(Refusals):

    def test_by_hand(self):
        # Works by their names, then stands by theirs.
        rows = TEXT.split("\n")
        due = rows[5:8] + rows[:5] + rows[19:] + rows[8:19]
        self.assertEqual(show_hall(told_hall()).split("\n"), due)
        self.assertEqual(show_hall(hall=hall_of(("work", "w", small_work()))), "work w\n" + SMALL)

    def test_of_nothing(self):
        self.assertEqual(show_hall(Hall()), "")

    def test_nothing_is_changed(self):
        hall = told_hall()
        show_hall(hall)
        self.assertEqual(all_of(hall), all_of(told_hall()))
        self.assertTrue(hall.undo())

    def test_far_beats(self):
        hall = small_hall(("stand", "t", "w", FAR, ROWS), ("run", "s", 10 ** 20))
        self.assertIn(f"stand t w {FIGURES} {FIGURES}", show_hall(hall).split("\n"))
        self.assertIn(f"stand s w 5 {10 ** 20 + 5}", show_hall(hall).split("\n"))
        self.assertEqual(read_hall(show_hall(hall)), hall)


class ReadBack(Refusals):

    def test_by_hand(self):
        hall = read_hall(TEXT)
        self.assertEqual(hall, told_hall())
        self.assertEqual(all_of(hall), all_of(told_hall()))
        self.assertEqual(read_hall(text=show_hall(hall)), hall)
        self.assertEqual(read_hall(""), Hall())
        self.assertIs(type(read_hall("")), Hall)

    def test_nothing_is_to_be_undone(self):
        hall = read_hall(TEXT)
        self.assertIs(hall.undo(), False)
        self.assertIs(hall.redo(), False)
        hall.do(("run", "s", 3))
        self.assertIs(hall.undo(), True)
        self.assertIs(hall.undo(), False)
        self.assertEqual(hall, told_hall())

    def test_it_goes_on_as_the_elder(self):
        hall, other = told_hall(), read_hall(TEXT)
        for deed in [("run", "s", 7), ("look", "s", SPOT), ("put", "s", SPOT, "b"), ("run", "s", 100),
                     ("look", "s", SPOT), ("twin", "s", "t"), ("drop", "a"), ("drop", "b")]:
            self.assertEqual(hall.do(deed), other.do(deed))
        self.assertEqual(hall, other)
        self.refused(Needed, {"name": "w", "by": "s"}, other.do, ("drop", "w"))

    def test_any_order(self):
        rows = TEXT.split("\n")
        works, stands = [rows[:5], rows[5:8]], [rows[8:19], rows[19:]]
        for one in (works, works[::-1]):
            for other in (stands, stands[::-1]):
                text = "\n".join([row for block in [*one, *other] for row in block])
                self.assertEqual(read_hall(text), told_hall())

    def test_by_chance(self):
        asked = test_hall.ByChance()
        for chance in chances(25, 241):
            work = some_work(chance, longs=(1, 2, 3), presses=3, signs=("ab", "abc"))
            others = [Work(work.signs(), work.bands(), work.presses()[:chance.randint(0, 3)]) for _ in range(2)]
            hall = hall_of(("work", "w", work), ("stand", "s", "w", 2, some_rows(chance, work)))
            for _ in range(60):
                if chance.random() < 0.15:
                    hall.undo()
                    continue
                try:
                    hall.do(asked.some_deed(chance, [work, *others]))
                except (ArithmeticError, KeyError, LookupError, RuntimeError):
                    continue
            other = read_hall(show_hall(hall))
            self.assertEqual(other, hall)
            self.assertEqual(all_of(other), all_of(hall))
            self.assertEqual(show_hall(other), show_hall(hall))
            self.assertIs(other.undo(), False)


class Refused(Refusals):

    def unread(self, row, word, text):
        """That a text is refused with this row and word."""
        self.refused(Unread, {"row": row, "word": word}, read_hall, text)

    def test_no_text(self):
        for thing in odd_things() + [5, ["work w"], b"", {}]:
            if thing != "":
                self.unread(0, 0, thing)

    def test_first_rows_by_their_words(self):
        for text in ["\n", " ", "\n" + TEXT, " " + TEXT, "works w", "signs ab", "Work w", "look", "row one aba", "-"]:
            self.unread(0, 0, text)
        self.unread(0, 1, "work")
        self.unread(0, 1, "work ")
        for word in ["", "W", "abcdefghi", "a1"]:
            self.unread(0, 1, with_rows(0, 1, "work " + word))
            self.unread(8, 1, with_rows(8, 1, f"stand {word} w 5 9"))
            self.unread(8, 2, with_rows(8, 1, f"stand s {word} 5 9"))
        self.unread(0, 2, with_rows(0, 1, "work w "))
        self.unread(0, 2, with_rows(0, 1, "work w w"))
        for words, many in [("stand", 1), ("stand s", 2), ("stand s w", 3), ("stand s w 5", 4)]:
            self.unread(8, many, with_rows(8, 1, words))
        self.unread(8, 5, with_rows(8, 1, "stand s w 5 9 "))
        self.unread(8, 5, with_rows(8, 1, "stand s w 5 9 0"))
        for word in ["", "-1", "05", "x", "1" + "0" * 59 + "1" + "0", FIGURES[:-1] + "1", "-0", "5.0", "9" * 9000]:
            self.unread(8, 3, with_rows(8, 1, f"stand s w {word} 9"))
            self.unread(8, 4, with_rows(8, 1, f"stand s w 5 {word}"))
        # Words go ahead of what they say.
        self.unread(8, 4, with_rows(8, 1, "stand w none 5 x"))
        self.unread(8, 5, with_rows(8, 1, "stand w none 9 5 5"))

    def test_blanks_and_line_ends(self):
        rows = TEXT.split("\n")
        for row, told in enumerate(rows):
            words = told.split(" ")
            for at in range(1, len(words)):
                self.unread(row, at, with_rows(row, 1, " ".join(words[:at] + [""] + words[at:])))
            self.unread(row, len(words), with_rows(row, 1, told + " "))
            self.unread(row, 0, with_rows(row, 1, " " + told))
            self.unread(row, len(words) - 1, with_rows(row, 1, told + "\r"))
        self.unread(len(rows), 0, TEXT + "\n")
        self.unread(0, 1, TEXT.replace("\n", "\r\n"))

    def test_a_work_behind_a_stand(self):
        rows = TEXT.split("\n")
        self.unread(16, 0, "\n".join(rows[:5] + rows[8:19] + rows[5:8]))
        self.unread(16, 0, "\n".join(rows[:5] + rows[8:19] + ["work", "signs"]))
        self.unread(21, 0, TEXT + "\nwork")
        self.unread(21, 0, TEXT + "\nwork w")

    def test_names_that_stand_and_works_that_do_not(self):
        self.unread(5, 1, with_rows(5, 1, "work w"))
        self.unread(8, 1, with_rows(8, 1, "stand w w 5 9"))
        self.unread(8, 1, with_rows(8, 1, "stand b w 5 9"))
        self.unread(19, 1, with_rows(19, 1, "stand s b 0 0"))
        self.unread(19, 2, with_rows(19, 1, "stand a s 0 0"))
        self.unread(8, 2, with_rows(8, 1, "stand s none 5 9"))
        self.unread(8, 1, with_rows(8, 1, "stand w none 9 5"))
        self.unread(8, 2, with_rows(8, 1, "stand s none 9 5"))
        self.unread(8, 4, with_rows(8, 1, "stand s w 9 5"))
        self.unread(8, 4, with_rows(8, 1, "stand s w 5 4"))
        # A stand may not go ahead of the work that it runs.
        self.unread(0, 2, "\n".join(STANDS + WORKS))
        # What was refused of the first row goes ahead of the rows behind it.
        self.unread(8, 4, with_rows(8, 2, "stand s w 5 4", "row"))

    def test_rows_of_a_work(self):
        self.unread(1, 1, with_rows(1, 1, "signs ba"))
        self.unread(3, 2, with_rows(3, 1, "band two 13 -1"))
        self.unread(4, 6, with_rows(4, 1, "press one 0 two 0 x"))
        self.unread(1, 0, with_rows(1, 1))
        self.unread(6, 0, with_rows(6, 1))
        self.unread(7, 0, with_rows(7, 1))
        self.unread(2, 0, with_rows(2, 2))
        for words in ["row one aba", "put 1 one 0 a", "lift 0 0 up", "look 0 one 0 a", "signs ab", "", "works b"]:
            self.unread(5, 0, with_rows(5, 0, words))
        # Where all rows are so, but not the whole, the row behind.
        self.unread(5, 0, with_rows(4, 1, "press one 3 two 0 x ab ba"))
        self.unread(5, 0, with_rows(3, 1, "band one 4 -1"))
        self.unread(9, 0, with_rows(8, 0, "press one 2 one 0 x acz acz acz"))

    def test_a_block_without_rows(self):
        self.unread(1, 0, "work w")
        self.unread(1, 0, "work w\nwork b\n" + "\n".join(WORKS[6:]))
        self.unread(1, 0, "work w\nstand s w 0 0")
        self.unread(9, 0, "\n".join(WORKS + ["stand s w 5 9"]))
        self.unread(9, 0, "\n".join(WORKS + ["stand s w 5 9"] + STANDS[11:]))

    def test_rows_of_a_beginning(self):
        self.unread(9, 1, with_rows(9, 2, "row two abba", "row one aba"))
        self.unread(9, 2, with_rows(9, 1, "row one abc"))
        self.unread(10, 2, with_rows(10, 1, "row two abb"))
        self.unread(10, 0, with_rows(10, 1))
        self.unread(9, 1, with_rows(9, 1))
        self.unread(10, 0, with_rows(10, 9))
        self.unread(9, 0, with_rows(9, 2))
        self.unread(11, 0, with_rows(11, 0, "row two abba"))
        self.unread(21, 0, TEXT + "\nrow one za")
        self.unread(21, 0, TEXT + "\nband one 2 0")
        self.unread(9, 0, with_rows(9, 0, "put 6 two 1 a"))
        self.unread(9, 0, with_rows(9, 0, "look 5 two 1 b"))

    def test_puts_and_lifts(self):
        for word, words in [(1, "put 06 two 1 a"), (1, "put 0 two 1 a"), (2, "put 6 Two 1 a"), (3, "put 6 two x a"),
                            (4, "put 6 two 1 ab"), (4, "put 6 two 1"), (5, "put 6 two 1 a a"), (0, "puts 6 two 1 a")]:
            self.unread(11, word, with_rows(11, 1, words))
        for word, words in [(1, "lift x 0 up"), (2, "lift 5 00 up"), (3, "lift 5 0 Up"), (3, "lift 5 0"),
                            (4, "lift 5 0 up up")]:
            self.unread(14, word, with_rows(14, 1, words))
        self.unread(14, 0, with_rows(13, 2, "lift 5 0 up", "put 10 one 0 a"))
        for words in ["row one aba", "signs ab", "band one 3 1", "press one 0 two 0 x ab ba", "fits", ""]:
            for row in (11, 13, 14, 16):
                self.unread(row, 0, with_rows(row, 0, words))
        # Where they are none of a course, the row behind them.
        for row, words in [(11, "put 6 two 4 a"), (11, "put 6 six 0 a"), (12, "put 8 one 0 z"),
                           (11, f"put 6 two {'9' * 61} a"), (14, "lift 5 1 up"), (15, "lift 9 7 down")]:
            self.unread(16, 0, with_rows(row, 1, words))
        self.assertEqual(len(read_hall(with_rows(13, 1, *["put 10 one 0 a"] * 8)).course("s").puts()), 10)
        self.unread(24, 0, with_rows(13, 1, *["put 10 one 0 a"] * 9))
        self.unread(24, 0, with_rows(15, 1, *["lift 9 0 up"] * 9))
        self.unread(22, 0, TEXT + "\nput 1 one 0 b")
        self.unread(22, 0, TEXT + "\nlift 0 0 up")

    def test_beats_of_puts_and_lifts(self):
        # From BEGIN + 1 to BEAT + 1, each no less than the one ahead.
        for row, beat in [(11, 5), (12, 5), (12, 11), (13, 7), (13, 11), (13, 5)]:
            words = TEXT.split("\n")[row].split(" ")
            words[1] = str(beat)
            self.unread(row, 1, with_rows(row, 1, " ".join(words)))
        for row, beat in [(14, 4), (14, 10), (15, 4), (15, 10)]:
            words = TEXT.split("\n")[row].split(" ")
            words[1] = str(beat)
            self.unread(row, 1, with_rows(row, 1, " ".join(words)))
        self.unread(15, 1, with_rows(14, 2, "lift 7 0 up", "lift 6 0 down"))
        for row, words in [(11, "put 8 two 1 a"), (12, "put 10 one 0 b"), (13, "put 8 one 0 a"), (14, "lift 9 0 up"),
                           (15, "lift 5 0 down")]:
            hall = read_hall(with_rows(row, 1, words).split("\nlook")[0])
            self.assertEqual(len(hall.course("s").puts()), 3)
        # Puts ahead of lifts; a course that is none ahead of both.
        self.unread(13, 1, with_rows(13, 2, "put 11 one 0 a", "lift 4 0 up"))
        self.unread(16, 0, with_rows(13, 2, "put 11 one 0 a", "lift 4 1 up"))
        self.unread(12, 1, with_rows(11, 2, "put 9 two 1 a", "put 8 one 0 b"))
        self.unread(11, 1, with_rows(11, 2, "put 11 two 1 a", "put 5 one 0 b"))

    def test_looks_by_their_words(self):
        for word, words in [(0, "looks 5 two 1 b"), (0, "put 6 two 1 a"), (0, "lift 9 0 up"), (0, "row one aba"),
                            (1, "look 05 two 1 b"), (1, "look"), (1, "look -1 two 1 b"), (2, "look 5 Two 1 b"),
                            (2, "look 5"), (3, "look 5 two 01 b"), (3, "look 5 two"), (4, "look 5 two 1 B"),
                            (4, "look 5 two 1"), (5, "look 5 two 1 b b"), (2, "look 5 six 1 b"), (3, "look 5 two 4 b"),
                            (3, f"look 5 two {'9' * 61} b"), (4, "look 5 two 1 z"), (3, "look 5 one 3 b"),
                            (3, f"look 5 two {'9' * 62} b"), (1, f"look {FIGURES[:-1]}1 two 1 b")]:
            self.unread(17, word, with_rows(17, 1, words))
        # Each look by itself, its words ahead of what they say; all of them ahead of their beats.
        self.unread(17, 2, with_rows(17, 2, "look 8 six 9 z", "look"))
        self.unread(17, 3, with_rows(17, 2, "look 8 one 9 z", "look"))
        self.unread(17, 4, with_rows(17, 2, "look 8 one 0 z", "look"))
        self.unread(17, 5, with_rows(17, 2, "look 8 six 9 z z", "look"))
        self.unread(18, 2, with_rows(17, 2, "look 4 one 0 a", "look 8 six 0 b"))
        # Puts and lifts, and their beats, go ahead of looks.
        self.unread(14, 1, with_rows(14, 3, "lift 4 0 up", "lift 9 0 down", "look"))
        self.unread(13, 1, with_rows(13, 4, "put 11 one 0 a", "lift 5 0 up", "lift 9 0 down", "look"))

    def test_a_thirty_first_look(self):
        look = "look 5 two 1 b"
        self.assertEqual(len(read_hall(with_rows(16, 3, *[look] * 30)).looks("s")), 30)
        self.unread(46, 0, with_rows(16, 3, *[look] * 31))
        self.unread(46, 4, with_rows(16, 3, *[look] * 30, "look 5 two 1 z"))
        self.unread(46, 1, with_rows(16, 3, *[look] * 30, "look x two 1 z", "look"))
        # It goes ahead of the beats, and of looks behind it.
        self.unread(46, 0, with_rows(16, 3, *["look 4 two 1 b"] * 31, "look"))

    def test_beats_of_looks(self):
        for row, words in [(16, "look 4 two 1 b"), (16, "look 10 two 1 b"), (17, "look 4 one 0 b"),
                           (17, "look 10 one 0 b"), (18, "look 7 one 0 b"), (18, "look 10 one 0 b")]:
            self.unread(row, 1, with_rows(row, 1, words))
        self.unread(17, 1, with_rows(16, 2, "look 8 one 0 b", "look 5 two 1 b"))
        # The beats go ahead of the signs.
        self.unread(18, 1, with_rows(16, 3, "look 5 two 1 a", "look 8 one 0 b", "look 7 one 0 b"))

    def test_signs_that_do_not_stand_there(self):
        self.unread(16, 4, with_rows(16, 1, "look 5 two 1 a"))
        self.unread(17, 4, with_rows(17, 1, "look 8 one 0 a"))
        self.unread(18, 4, with_rows(18, 1, "look 8 one 0 a"))
        self.unread(16, 4, with_rows(16, 3, "look 5 two 1 a", "look 8 one 0 a", "look 8 one 0 a"))
        hall = told_hall()
        for place in small_work().places():
            sign = hall.do(("look", "s", place))
            hall.undo()
            other = {"a": "b", "b": "a"}[sign]
            words = f"look 9 {place[0]} {place[1]} "
            self.assertEqual(read_hall(with_rows(18, 1, words + sign)).looks("s")[2], (9, place, sign))
            self.unread(18, 4, with_rows(18, 1, words + other))
        # The stand is refused ahead of the blocks behind it.
        self.unread(18, 4, with_rows(18, 2, "look 8 one 0 a", "stand"))

    def test_too_long(self):
        rows = "".join(f"\nrow {band.called()} {text}"
                       for band, text in zip(wheels(LONG).bands(), one_marked(wheels(LONG))))
        head = "work w\n" + show_work(wheels(LONG))
        self.assertEqual(read_hall(head + "\nstand s w 7 1007" + rows).stand("s"), ("w", 7, 1007))
        self.refused(TooLong, {"beats": 1001}, read_hall, head + "\nstand s w 7 1008" + rows)
        puts = "\nput 900 a 0 a\nput 2008 a 0 a"
        self.refused(TooLong, {"beats": 1101}, read_hall, head + "\nstand s w 7 2001" + rows + puts[:14])
        # Behind the looks' beats, ahead of their signs and of other blocks; a put of BEAT + 1 does nothing yet.
        sign = "\nlook 7 a 0 a"
        self.refused(TooLong, {"beats": 1001}, read_hall, head + "\nstand s w 7 1008" + rows + sign + "\nstand")
        at = len(head.split("\n")) + 1 + len(LONG)
        self.unread(at, 4, head + "\nstand s w 7 1007" + rows + sign)
        self.unread(at + 1, 1, head + "\nstand s w 7 1008" + rows + sign + "\nlook 6 a 0 a")
        self.assertEqual(read_hall(head + "\nstand s w 7 1007" + rows + "\nput 1008 a 0 a").stand("s")[2], 1007)

    def test_unlike_signs_and_presses_of_another_work(self):
        text = with_rows(19, 2, "stand a b 0 4", "row one za", "put 1 one 1 c", "look 4 one 1 c", "look 4 one 0 z")
        self.assertEqual(read_hall(text).looks("a"), [(4, ("one", 1), "c"), (4, ("one", 0), "z")])
        self.unread(23, 4, with_rows(19, 2, "stand a b 0 4", "row one za", "put 1 one 1 c", "look 4 one 1 c",
                                     "look 4 one 0 a"))
        self.unread(22, 0, with_rows(19, 2, "stand a b 0 4", "row one za", "put 1 one 1 b", "look 4 one 1 c"))

    def test_what_is_read_is_a_hall_of_its_own(self):
        one, other = read_hall(TEXT), read_hall(TEXT)
        one.do(("run", "s", 1))
        self.assertEqual(other, told_hall())
        self.assertNotEqual(one, other)


if __name__ == "__main__":
    unittest.main()
