"""Texts: works, courses, rows and trees written and read again, and what is refused of others."""

import unittest

from bandprint.bands import Band, Work
from bandprint.courses import Course
from bandprint.errors import NoRows, Unread
from bandprint.texts import (read_course, read_rows, read_tree, read_work, show_course, show_rows, show_tree, show_work)
from bandprint.trees import tree_of
from tests.samples import (FAR, MIXED_ROWS, Refusals, chances, mixed_course, mixed_work, odd_things, small_work,
                           some_course, some_rows, some_work)
from tests.slowcases import many_leaves, sightings_of

SMALL = "signs ab\nband one 3 1\nband two 4 -1\npress one 0 two 0 x ab ba"
COURSE = SMALL + "\nput 5 two 3 a\nput 1 one 0 b\nlift 3 0 up\nlift 0 0 down"
ROWS = "row one aba\nrow two abba"
TREE = "split two 1 b 1 a 2\nfits\nclashes 0"
NODES = [("split", ("two", 1), (("b", 1), ("a", 2))), ("fits",), ("clashes", 0)]
FIGURES = "1" + "0" * 60


def row_with(text, row, words):
    """A text with another row at a number."""
    rows = text.split("\n")
    rows[row] = words
    return "\n".join(rows)


class Written(Refusals):

    def test_works(self):
        self.assertEqual(show_work(small_work()), SMALL)
        self.assertEqual(show_work(work=Work("acxz", [Band("abcdefgh", 12, pace=-10 ** 12)])),
                         "signs acxz\nband abcdefgh 12 -1000000000000")
        self.assertEqual(show_work(mixed_work()).split("\n"), [
            "signs abc", "band ab 5 2", "band c 3 -1", "band d 4 0", "band e 1 7",
            "press ab 0 c 1 x- abc bca cab", "press c 1 d 3 xx- aaa abc ccc", "press d 3 d 3 -x bac bca acb",
            "press e 0 ab 4 x abc bac acb", "press c 2 ab 4 --x cab abc bca", "press ab 2 e 0 x abc bcc aab"])

    def test_courses(self):
        course = Course(small_work(), puts=[(5, ("two", 3), "a"), (1, ("one", 0), "b")],
                        lifts=[(3, 0, "up"), (0, 0, "down")])
        self.assertEqual(show_course(course), COURSE)
        self.assertEqual(show_course(course=Course(small_work())), SMALL)
        far = Course(small_work(), puts=[(FAR, ("one", 2), "a")], lifts=[(FAR, 0, "up")])
        self.assertEqual(show_course(far), f"{SMALL}\nput {FIGURES} one 2 a\nlift {FIGURES} 0 up")

    def test_rows(self):
        self.assertEqual(show_rows(small_work(), ("aba", "abba")), ROWS)
        self.assertEqual(show_rows(work=mixed_work(), rows=MIXED_ROWS), "row ab abcab\nrow c cba\nrow d bbca\nrow e c")
        self.refused(NoRows, {"number": 1}, show_rows, small_work(), ("aba", "abbc"))
        self.refused(NoRows, {"number": -1}, show_rows, small_work(), ["aba", "abba"])

    def test_trees(self):
        self.assertEqual(show_tree(NODES), TREE)
        self.assertEqual(show_tree(nodes=[("fits",)]), "fits")
        self.assertEqual(show_tree([("split", ("k", 11), (("abcd", 12),)), ("clashes", 29)]),
                         "split k 11 abcd 12\nclashes 29")
        course, sightings = many_leaves(8)
        self.assertEqual(len(show_tree(tree_of(course, sightings)).split("\n")), len(tree_of(course, sightings)))

    def test_nothing_is_changed(self):
        nodes = list(NODES)
        show_tree(nodes)
        self.assertEqual(nodes, NODES)
        read_tree(TREE).clear()
        self.assertEqual(read_tree(TREE), NODES)


class ReadBack(Refusals):

    def test_by_hand(self):
        self.assertEqual(read_work(SMALL), small_work())
        self.assertEqual(read_work(text=show_work(mixed_work())), mixed_work())
        self.assertEqual(show_course(read_course(COURSE)), COURSE)
        self.assertEqual(read_course(text=show_course(mixed_course())), mixed_course())
        self.assertEqual(read_course(SMALL), Course(small_work()))
        self.assertEqual(read_rows(work=mixed_work(), text="row ab abcab\nrow c cba\nrow d bbca\nrow e c"), MIXED_ROWS)
        self.assertEqual(read_rows(small_work(), ROWS), ("aba", "abba"))
        self.assertEqual(read_tree(text=TREE), NODES)
        self.assertIs(type(read_rows(small_work(), ROWS)), tuple)
        self.assertIs(type(read_tree(TREE)), list)

    def test_by_chance(self):
        for chance in chances(60, 131):
            work = some_work(chance, presses=8)
            course, rows = some_course(chance, work), some_rows(chance, work)
            self.assertEqual(read_work(show_work(work)), work)
            self.assertEqual(read_course(show_course(course)), course)
            self.assertEqual(read_course(show_work(work)), Course(work))
            self.assertEqual(read_rows(work, show_rows(work, rows)), rows)
            nodes = tree_of(course, sightings_of(chance, course, 2, last=3))
            self.assertEqual(read_tree(show_tree(nodes)), nodes)

    def test_any_nodes(self):
        for nodes in [[("fits",)] * 3, [("clashes", 10 ** 61 - 1)], [("clashes", 0), ("fits",)],
                      [("split", ("zz", FAR), (("a", 0), ("a", 0), ("acxz", 10 ** 60)))]]:
            self.assertEqual(read_tree(show_tree(nodes)), nodes)


class Refused(Refusals):

    def unread(self, row, word, call, *places):
        """That a text is refused with this row and word."""
        self.refused(Unread, {"row": row, "word": word}, call, *places)

    def readers(self):
        """All that read, each with a text that it reads."""
        return [(read_work, SMALL), (read_course, COURSE), (lambda text: read_rows(small_work(), text), ROWS),
                (read_tree, TREE)]

    def test_no_text_and_the_empty_one(self):
        for call, _ in self.readers():
            for thing in odd_things() + [5, b"fits", ["fits"], [SMALL], NODES]:
                if not isinstance(thing, str):
                    self.unread(0, 0, call, thing)
            for text in ["", " ", "\n", "fit", "x", "Signs ab", "work a"]:
                self.unread(0, 0, call, text)

    def test_blanks_and_line_ends(self):
        for call, text in self.readers():
            rows = text.split("\n")
            for row, told in enumerate(rows):
                words = told.split(" ")
                for at in range(len(words)):
                    empty = " ".join(words[:at] + [""] + words[at:])
                    self.unread(row, at, call, row_with(text, row, empty))
                self.unread(row, len(words), call, row_with(text, row, told + " "))
                self.unread(row, 0, call, row_with(text, row, " " + told))
                self.unread(row, 0, call, row_with(text, row, ""))
                # Another line end belongs to the last word, or stands for it.
                for end in ["\r", "\t", "\u2028", "\x0b"]:
                    self.unread(row, len(words) - 1, call, row_with(text, row, told + end))
            self.unread(len(rows), 0, call, text + "\n")
            self.unread(0, 0, call, "\n" + text)
            self.unread(0, 0, call, text.replace(" ", "\t", 1))
            for end in ["\r\n", "\r"]:
                first = len(rows[0].split(" ")) - 1
                self.unread(0, first, call, text.replace("\n", end))

    def test_a_word_more_and_a_word_fewer(self):
        for call, text in self.readers():
            for row, told in enumerate(text.split("\n")):
                words = told.split(" ")
                if words[0] != "split":
                    self.unread(row, len(words), call, row_with(text, row, told + " a"))
                    self.unread(row, len(words), call, row_with(text, row, told + " a a"))
                for many in range(1, len(words)):
                    if words[:many] != ["split", "two", "1", "b", "1"]:
                        self.unread(row, many, call, row_with(text, row, " ".join(words[:many])))

    def test_rows_where_they_cannot_stand(self):
        signs, one, two, press = SMALL.split("\n")
        put, lift = "put 1 one 0 b", "lift 0 0 up"
        for call in [read_work, read_course]:
            for rows, row in [([one, signs], 0), ([press], 0), ([signs, signs, one], 1), ([signs, press, one], 1),
                              ([signs, one, press, two], 3), ([signs, one, signs], 2),
                              ([signs, one, two, press, signs], 4),
                              ([signs, one, "row one aba"], 2), ([signs, "fits"], 1), ([signs, "signs"], 1),
                              ([signs, one, two, press, one], 4), ([put], 0), ([signs, put], 1), ([signs, lift], 1),
                              ([signs, one, "bands two 4 1"], 2), ([signs, one, ""], 2)]:
                self.unread(row, 0, call, "\n".join(rows))
        for rows, row in [([signs, one, put], 2), ([signs, one, lift], 2), ([signs, one, two, press, put], 4)]:
            self.unread(row, 0, read_work, "\n".join(rows))
        for rows, row in [([signs, one, two, press, lift, put], 5), ([signs, one, two, put, press], 4),
                          ([signs, one, two, press, put, lift, put], 6), ([signs, one, two, put, two], 4),
                          ([signs, one, two, press, lift, press], 5), ([signs, one, two, press, lift, signs], 5)]:
            self.unread(row, 0, read_course, "\n".join(rows))
        self.assertEqual(len(read_course("\n".join([signs, one, two, press, put, put, lift, lift])).puts()), 2)
        self.assertEqual(read_course("\n".join([signs, one, put])).puts(), [(1, ("one", 0), "b")])

    def test_the_first_row_goes_ahead(self):
        for call in [read_work, read_course]:
            self.unread(1, 2, call, "signs ab\nband one 13 1\nband two 4 -1 1\npress")
            self.unread(0, 1, call, "signs ba\nband one 13 1")
            self.unread(2, 0, call, "signs ab\nband one 3 1\nsigns ba")
            self.unread(1, 1, call, "signs ab\nband One 13 1000000000001 x")

    def test_a_row_that_lacks(self):
        self.unread(1, 0, read_work, "signs ab")
        self.unread(1, 0, read_course, "signs ab")
        self.unread(1, 0, lambda text: read_rows(small_work(), text), "row one aba")

    def test_words_of_signs_and_bands(self):
        for word in ["a", "abcde", "ba", "aa", "aB", "a1", "", "\u00e9a"]:
            self.unread(0, 1, read_work, row_with(SMALL, 0, "signs " + word))
        for word in ["", "One", "abcdefghi", "a1", "a-b", "\u00e9"]:
            self.unread(1, 1, read_work, row_with(SMALL, 1, f"band {word} 3 1"))
        for word in ["0", "13", "-1", "+3", "03", "3.0", "three", "", "-0", "\u0663", "\u00b2", FIGURES,
                     FIGURES + "0" * 9000]:
            self.unread(1, 2, read_work, row_with(SMALL, 1, f"band one {word} 1"))
        for word in ["1000000000001", "-1000000000001", "+1", "01", "-01", "-0", "--1", "-", "", "1-", "00", "\u0661",
                     "1_0",
                     "-" + FIGURES, FIGURES + "0" * 9000, "-" + FIGURES * 90]:
            self.unread(1, 3, read_work, row_with(SMALL, 1, f"band one 3 {word}"))
        for word in ["1000000000000", "-1000000000000", "0", "-1"]:
            self.assertEqual(read_work(row_with(SMALL, 1, f"band one 3 {word}")).bands()[0].pace(), int(word))

    def test_words_of_presses(self):
        for at in [1, 3]:
            for word in ["One", "", "abcdefghi", "1"]:
                words = ["press", "one", "0", "two", "0", "x", "ab", "ba"]
                words[at] = word
                self.unread(3, at, read_work, row_with(SMALL, 3, " ".join(words)))
        for at in [2, 4]:
            for word in ["12", "-1", "00", "01", "", "x", "-0", FIGURES]:
                words = ["press", "one", "0", "two", "0", "x", "ab", "ba"]
                words[at] = word
                self.unread(3, at, read_work, row_with(SMALL, 3, " ".join(words)))
        for word in ["", "X", "xxxxxxx", "x.", "-x-x-x-", "up"]:
            self.unread(3, 5, read_work, row_with(SMALL, 3, f"press one 0 two 0 {word} ab ba"))
        for word in ["", "a", "abcde", "aB", "a1", "x-"]:
            self.unread(3, 6, read_work, row_with(SMALL, 3, f"press one 0 two 0 x {word} ba"))
        for texts, word in [("ab b", 7), ("ab bab", 7), ("ab", 7), ("ab ba ab", 8), ("abc abc", 8), ("abc abc ab", 8),
                            ("abc abc abc abc", 9), ("abcd abcd abcd abc", 9), ("abcd abcd abcd", 9), ("ab bA", 7),
                            ("ab ", 7)]:
            self.unread(3, word, read_work, row_with(SMALL, 3, f"press one 0 two 0 x {texts}"))
        self.unread(3, 6, read_work, row_with(SMALL, 3, "press one 0 two 0 x"))

    def test_the_whole_of_a_work(self):
        for text in [row_with(SMALL, 1, "band two 3 1"), row_with(SMALL, 3, "press one 3 two 0 x ab ba"),
                     row_with(SMALL, 3, "press one 0 six 0 x ab ba"), row_with(SMALL, 3, "press one 0 two 0 x ac ba"),
                     row_with(SMALL, 3, "press one 0 two 0 x abc abc abc"), row_with(SMALL, 0, "signs abc"),
                     row_with(SMALL, 0, "signs ac"), row_with(SMALL, 3, "press one 11 two 11 x zz zz")]:
            self.unread(4, 0, read_work, text)
            self.unread(6, 0, read_course, text + "\nput 1 one 0 a\nlift 0 0 up")
        bands = [f"band {name} 1 0" for name in "abcdefg"]
        self.assertEqual(len(read_work("\n".join(["signs ab", *bands[:6]]))), 6)
        self.unread(8, 0, read_work, "\n".join(["signs ab", *bands]))
        self.unread(5, 0, read_work, "\n".join(["signs ab", *[f"band {name} 12 0" for name in "abc"], "band d 5 0"]))
        press = SMALL.split("\n")[3]
        self.assertEqual(len(read_work("\n".join([SMALL, *[press] * 7])).presses()), 8)
        self.unread(12, 0, read_work, "\n".join([SMALL, *[press] * 8]))

    def test_words_of_puts_and_lifts(self):
        beyond = "1" + "0" * 59 + "1"
        for word in ["0", "-1", "01", "", FIGURES[:-1] + "1", FIGURES + "0", "9" * 61, "x", "+1", "1.0", "9" * 9000,
                     beyond + "0"]:
            self.unread(4, 1, read_course, row_with(COURSE, 4, f"put {word} two 3 a"))
        for word in ["-1", "-0", "00", "", FIGURES[:-1] + "1", FIGURES + "0", "x"]:
            self.unread(6, 1, read_course, row_with(COURSE, 6, f"lift {word} 0 up"))
        for word in ["Two", "", "abcdefghi"]:
            self.unread(4, 2, read_course, row_with(COURSE, 4, f"put 5 {word} 3 a"))
        for word in ["-1", "03", "", "x", "9" * 62, "1" + "0" * 61]:
            self.unread(4, 3, read_course, row_with(COURSE, 4, f"put 5 two {word} a"))
            self.unread(6, 2, read_course, row_with(COURSE, 6, f"lift 3 {word} up"))
        for word in ["", "A", "ab", "1", "\u00e9", "-"]:
            self.unread(4, 4, read_course, row_with(COURSE, 4, f"put 5 two 3 {word}"))
        for word in ["", "Up", "u", "updown", "x"]:
            self.unread(6, 3, read_course, row_with(COURSE, 6, f"lift 3 0 {word}"))

    def test_the_whole_of_a_course(self):
        for row, words in [(4, "put 5 two 4 a"), (4, "put 5 six 0 a"), (4, "put 5 two 3 z"),
                           (4, "put 5 two " + "9" * 61 + " a"),
                           (6, "lift 3 1 up"), (6, "lift 3 " + "9" * 61 + " up")]:
            self.unread(8, 0, read_course, row_with(COURSE, row, words))
        put, lift = "\nput 1 one 0 b", "\nlift 0 0 up"
        self.assertEqual(len(read_course(SMALL + put * 12).puts()), 12)
        self.assertEqual(len(read_course(SMALL + put * 6 + lift * 6).lifts()), 6)
        self.unread(17, 0, read_course, SMALL + put * 13)
        self.unread(17, 0, read_course, SMALL + put * 6 + lift * 7)
        self.assertEqual(read_course(SMALL + f"\nput {FIGURES} one 0 b\nlift {FIGURES} 0 up").deed_beats(), [FAR])

    def test_rows_of_a_work(self):
        def read(text):
            return read_rows(small_work(), text)
        self.unread(0, 1, read, "row two abba\nrow one aba")
        self.unread(1, 1, read, "row one aba\nrow one aba")
        self.unread(0, 1, read, "row six aba\nrow two abba")
        self.unread(0, 1, read, "row  aba\nrow two abba")
        for word in ["ab", "ababa", "abcd", "aBa", "", "12a", "abac"]:
            self.unread(0, 2, read, f"row one {word}\nrow two abba")
            self.unread(1, 2, read, f"row one aba\nrow two {word}")
        self.unread(0, 2, read, "row one abba\nrow two abba")
        self.unread(0, 1, read, "row One ab\nrow")
        self.unread(1, 0, read, "row one aba\nband two abba")
        self.unread(2, 0, read, ROWS + "\nrow two abba")
        self.unread(2, 0, read, ROWS + "\nrow")
        self.unread(2, 0, read, ROWS + "\n")
        self.unread(1, 0, read, "row one aba")
        self.unread(1, 2, read, "row one aba\nrow two")
        self.unread(1, 3, read, "row one aba\nrow two abba abba\nrow")
        # Bands in the work's order, whatever their names.
        turned = Work("ab", small_work().bands()[::-1])
        self.assertEqual(read_rows(turned, "row two abba\nrow one aba"), ("abba", "aba"))
        self.unread(0, 1, lambda text: read_rows(turned, text), ROWS)

    def test_trees(self):
        def unread(row, word, *rows):
            self.unread(row, word, read_tree, "\n".join(rows))
        unread(1, 0, "fits", "unlike")
        unread(1, 0, "fits", "shows a")
        unread(1, 0, "fits", "same")
        unread(0, 1, "fits 0")
        unread(0, 1, "clashes")
        for word in ["-1", "01", "", "x", "9" * 62, "-0"]:
            unread(0, 1, "clashes " + word)
            unread(0, 2, f"split two {word} b 1 a 2")
            unread(0, 4, f"split two 1 b {word} a 2")
            unread(0, 6, f"split two 1 b 1 a {word}")
        unread(0, 2, "clashes 0 0")
        for word in ["Two", "", "abcdefghi", "1"]:
            unread(0, 1, f"split {word} 1 b 1 a 2")
        for word in ["", "ba", "bb", "abcde", "B", "1"]:
            unread(0, 3, f"split two 1 {word} 1 a 2")
            unread(0, 5, f"split two 1 b 1 {word} 2")
        for words, many in [("split", 1), ("split two", 2), ("split two 1", 3), ("split two 1 b", 4),
                            ("split two 1 b 1 a", 6)]:
            unread(0, many, words)
        self.assertEqual(read_tree("split two 1 b 1"), [("split", ("two", 1), (("b", 1),))])
        self.assertEqual(read_tree("clashes " + "9" * 61), [("clashes", 10 ** 61 - 1)])
        self.assertEqual(read_tree("split a 0 " + " ".join("ab 7" for _ in range(50)))[0][2], (("ab", 7),) * 50)

    def test_letters_of_other_signs(self):
        # By itself a row may have any letters; the work is asked as a whole.
        self.assertEqual(read_tree("split zz 99 wxyz 3"), [("split", ("zz", 99), (("wxyz", 3),))])
        self.unread(4, 0, read_work, row_with(SMALL, 3, "press one 0 two 0 x yz zy"))


if __name__ == "__main__":
    unittest.main()
