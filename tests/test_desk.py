"""The desk: each text that it answers, and what it refuses."""

import unittest

from bandprint.bands import Band, Press, Work
from bandprint.courses import Course
from bandprint.desk import Desk
from bandprint.errors import Full, Needed, NoAsk, NoName, NoSight, Seen, Taken, TooLong, TooMany, Unfit, Unread
from bandprint.firsts import first_seen
from bandprint.hall import Hall
from bandprint.puts import fewest_puts
from bandprint.texts import show_rows, show_work
from tests import test_hall
from tests.samples import (FLIP2, Refusals, chances, odd_things, one_marked, small_work, some_rows, some_work,
                           wheels)
from tests.test_hall import with_table
from tests.test_rounds import LONG
from tests.test_shown import many_reads
from tests.test_texts import FIGURES, SMALL

STAND = "stand s w 5\nrow one aba\nrow two abba"
QUESTIONS = ["names", "undo", "redo", "beat s", "rows s", "looks s", "many s", "sure s", "first s one 0 b",
             "fewest s 1 one 0 b"]
DEEDS = ["work w\n" + SMALL, "change w\n" + SMALL, STAND, "twin s t", "run s 1", "put s two 1 a", "lift s 0 up",
         "look s two 1", "drop s"]


def desk_of(*rows):
    """A desk that has been told these texts."""
    desk = Desk()
    for row in rows:
        desk.say(row)
    return desk


def small_desk(*rows):
    """A desk with the small work, "w", and a stand of it from 5 on, "s", that has been told these texts."""
    return desk_of("work w\n" + SMALL, STAND, *rows)


def text_of(deed):
    """The text that asks for a deed."""
    word, name, *rest = deed
    if word in ("work", "change"):
        return f"{word} {name}\n{show_work(rest[0])}"
    if word == "put":
        return f"put {name} {rest[0][0]} {rest[0][1]} {rest[1]}"
    if word == "look":
        return f"look {name} {rest[0][0]} {rest[0][1]}"
    return " ".join([word, name, *[str(each) for each in rest]])


def answers(hall):
    """What a desk answers of a hall, by the texts that ask for it."""
    told = {"names": " ".join(hall.names()) or "none"}
    for name in hall.names():
        if hall.sort_of(name) == "work":
            continue
        told["beat " + name] = str(hall.stand(name)[2])
        work = hall.course(name).work()
        told["rows " + name] = ", ".join(f"{band.called()} {text}" for band, text in zip(work.bands(), hall.rows(name)))
        told["looks " + name] = ", ".join(f"{beat} {place[0]} {place[1]} {sign}"
                                          for beat, place, sign in hall.looks(name)) or "none"
        told["many " + name] = str(hall.how_many(name))
        told["sure " + name] = ", ".join(f"{place[0]} {place[1]} {sign}"
                                         for place, sign in hall.sure(name)) or "none"
    return told


def said(desk, row):
    """What a desk answers, or its refusal's class and fields."""
    try:
        return desk.say(row)
    except (NoAsk, NoName, Taken, Needed, Unfit, Full, Seen, TooMany, TooLong) as refusal:
        return type(refusal), {key: worth for key, worth in vars(refusal).items()}


def done(hall, deed):
    """What a hall answers to a deed as a desk writes it, or its refusal's class and fields."""
    try:
        told = hall.do(deed)
    except (NoName, Taken, Needed, Unfit, Full, Seen, TooMany, TooLong) as refusal:
        return type(refusal), {key: worth for key, worth in vars(refusal).items()}
    return "ok" if told is None else told


class Answers(Refusals):

    def test_by_hand(self):
        desk = Desk()
        for row, due in [
                ("names", "none"), ("undo", "none"), ("redo", "none"), ("work w\n" + SMALL, "ok"), ("names", "w"),
                (STAND, "ok"), ("names", "s w"), ("beat s", "5"), ("rows s", "one aba, two abba"), ("looks s", "none"),
                ("many s", "128"), ("sure s", "none"), ("look s two 1", "b"), ("looks s", "5 two 1 b"),
                ("sure s", "two 1 b"), ("many s", "64"), ("run s 3", "ok"), ("beat s", "8"), ("look s one 0", "a"),
                ("looks s", "5 two 1 b, 8 one 0 a"), ("sure s", "one 0 a, two 1 b"), ("many s", "32"),
                ("lift s 0 up", "ok"), ("put s two 0 a", "ok"), ("run s 1", "ok"), ("look s two 0", "a"),
                ("twin s tt", "ok"), ("names", "s tt w"), ("drop s", "ok"), ("names", "tt w"), ("undo", "ok"),
                ("names", "s tt w"), ("redo", "ok"), ("redo", "none"), ("names", "tt w"),
                ("looks tt", "5 two 1 b, 8 one 0 a, 9 two 0 a"),
                ("change w\n" + show_work(with_table(FLIP2, "xx")), "ok"), ("lift tt 0 down", "ok"), ("run tt 0", "ok"),
                ("undo", "ok"), ("undo", "ok"), ("undo", "ok"), ("beat tt", "9")]:
            self.assertEqual(desk.say(row), due, row)
        self.assertEqual(desk.say(row="names"), "tt w")

    def test_all_is_undone(self):
        desk = small_desk("run s 2", "look s one 0", "put s one 0 b", "lift s 0 up", "twin s t", "drop s", "drop t",
                          "drop w")
        self.assertEqual(desk.say("names"), "none")
        self.assertEqual([desk.say("undo") for _ in range(11)], ["ok"] * 10 + ["none"])
        self.assertEqual([desk.say("redo") for _ in range(11)], ["ok"] * 10 + ["none"])
        self.assertEqual(desk.say("undo"), "ok")
        self.assertEqual(desk.say("names"), "w")

    def test_first(self):
        desk = small_desk("run s 3", "put s two 2 b")
        course = Course(small_work(), puts=[(9, ("two", 2), "b")])
        rows = tuple(text.split(" ")[1] for text in desk.say("rows s").split(", "))
        for wish in [[(("one", 0), "b")], [(("one", 1), "b"), (("two", 0), "a")],
                     [(("one", 0), "a"), (("one", 0), "b")], [(("two", 2), "b"), (("two", 3), "b"), (("one", 2), "a")],
                     [(("two", at), "b") for at in range(4)], [(("one", 0), "b")] * 4]:
            due = first_seen(course, rows, wish, begin=8)
            row = "first s " + " ".join(f"{place[0]} {place[1]} {sign}" for place, sign in wish)
            self.assertEqual(desk.say(row), str(due[1]) if due[0] == "at" else "never")
        self.assertEqual(small_desk().say("first s one 0 a"), "0")
        self.assertEqual(small_desk().say("first s one 0 b"), "2")
        self.assertEqual(small_desk().say("first s one 0 a one 0 b"), "never")

    def test_fewest(self):
        desk = small_desk("run s 3", "put s two 2 b", "lift s 0 up")
        course = Course(small_work(), puts=[(9, ("two", 2), "b")], lifts=[(8, 0, "up")])
        rows = tuple(text.split(" ")[1] for text in desk.say("rows s").split(", "))
        told = set()
        for wish in [[(("one", 0), "b")], [(("two", 3), "a")], [(("one", at), "b") for at in range(3)],
                     [(("two", at), sign) for at, sign in enumerate("abab")], [(("one", 0), "a"), (("one", 0), "b")]]:
            for beats in [0, 1, 2, 60]:
                due = fewest_puts(course, rows, wish, beats, begin=8)
                row = f"fewest s {beats} " + " ".join(f"{place[0]} {place[1]} {sign}" for place, sign in wish)
                told.add(desk.say(row))
                self.assertEqual(desk.say(row), str(due[1]) if due[0] == "puts" else "never")
        self.assertGreater(len(told), 2)
        self.assertIn("never", told)

    def test_beside_a_hall(self):
        asked = test_hall.ByChance()
        refused = set()
        for chance in chances(25, 251):
            work = some_work(chance, longs=(1, 2, 3), presses=3, signs=("ab", "abc"))
            others = [Work(work.signs(), work.bands(), work.presses()[:chance.randint(0, 3)]) for _ in range(2)]
            works = [work, *others]
            hall, desk = Hall(), Desk()
            deeds = [("work", "w", work), ("stand", "s", "w", 2, some_rows(chance, work)), ("run", "s", 2)]
            for deed in deeds + [asked.some_deed(chance, works) for _ in range(50)]:
                how = chance.random()
                if how < 0.1:
                    self.assertEqual(desk.say("undo"), "ok" if hall.undo() else "none")
                elif how < 0.2:
                    self.assertEqual(desk.say("redo"), "ok" if hall.redo() else "none")
                elif deed[0] == "stand":
                    _, name, other, begin, rows = deed
                    if not hall.has(other):
                        self.refused(NoName, {"name": other}, desk.say, f"stand {name} {other} {begin}\nrow")
                        continue
                    row = f"stand {name} {other} {begin}\n{show_rows(hall.work(other), rows)}"
                    self.assertEqual(said(desk, row), done(hall, deed))
                else:
                    due = done(hall, deed)
                    refused.add(due[0])
                    self.assertEqual(said(desk, text_of(deed)), due)
                for row, due in answers(hall).items():
                    self.assertEqual(desk.say(row), due)
        self.assertLess({Taken, NoName, Needed, Unfit}, refused)

    def test_numbers(self):
        desk = small_desk()
        self.assertEqual(desk.say(f"stand t w {FIGURES}\nrow one aba\nrow two abba"), "ok")
        self.assertEqual(desk.say("beat t"), FIGURES)
        self.assertEqual(desk.say(f"run s {10 ** 20}"), "ok")
        self.assertEqual(desk.say("beat s"), str(10 ** 20 + 5))

    def test_desks(self):
        one, other = small_desk(), small_desk()
        self.assertEqual(Desk(), Desk())
        self.assertEqual(one, other)
        one.say("run s 1")
        self.assertEqual(other.say("beat s"), "5")
        self.assertNotEqual(one, other)
        for thing in odd_things() + [Hall()]:
            self.assertFalse(Desk() == thing)


class NoAsks(Refusals):

    def no_ask(self, desk, *rows):
        """That these are no texts that a desk answers, and that all is as it was."""
        before = [desk.say("names"), desk.say("rows s"), desk.say("looks s")]
        for row in rows:
            self.refused(NoAsk, {"row": row}, desk.say, row)
        self.assertEqual([desk.say("names"), desk.say("rows s"), desk.say("looks s")], before)

    def test_anything(self):
        self.no_ask(small_desk(), *odd_things(), b"names", ["names"], ("names",), 5, {"names": 1})
        row = ["run", ["s", 1]]
        with self.assertRaises(NoAsk) as caught:
            small_desk().say(row)
        row[1].append(2)
        self.assertEqual(caught.exception.row, ["run", ["s", 1]])

    def test_words(self):
        for row in QUESTIONS + DEEDS:
            head, feed, text = row.partition("\n")
            words = head.split(" ")
            wrong = [" ".join(words[:at] + [""] + words[at:]) for at in range(len(words) + 1)]
            wrong += [head + " a", head + " a 0 b a", " ".join(words[:-1]), head.upper(), head[0].upper() + head[1:],
                      head.replace(" ", "\t"), head.replace(" ", ", "), "x" + head,
                      words[0] + "s" + head[len(words[0]):]]
            self.no_ask(small_desk(), *[each + feed + text for each in wrong if each != head])
        self.no_ask(small_desk(), "", " ", "\n", "ok", "none", "help", "tree s", "signs ab", "stand s w", "has s")

    def test_texts_behind(self):
        for row in QUESTIONS + DEEDS:
            if "\n" in row:
                self.no_ask(small_desk(), row.partition("\n")[0])
            else:
                self.no_ask(small_desk(), row + "\n", row + "\n" + SMALL, row + "\r", "\n" + row)

    def test_names(self):
        for name in ["S", "abcdefghi", "a1", "\u00e9", "-", "1"]:
            self.no_ask(small_desk(), f"work {name}\n{SMALL}", f"change {name}\n{SMALL}", f"stand {name} w 5\nrow",
                        f"stand t {name} 5\nrow", f"twin {name} t", f"twin s {name}", f"run {name} 1", f"beat {name}",
                        f"put {name} two 1 a", f"put s {name} 1 a", f"lift {name} 0 up", f"drop {name}",
                        f"look {name} two 1", f"look s {name} 1", f"rows {name}", f"looks {name}", f"many {name}",
                        f"sure {name}", f"first {name} one 0 b", f"first s {name} 0 b", f"fewest {name} 1 one 0 b",
                        f"fewest s 1 {name} 0 b", f"first s one 0 b {name} 0 b")

    def test_whole_numbers(self):
        for number in ["-1", "-0", "01", "00", "+1", "1.0", "x", "1_0", "\u0663", FIGURES[:-1] + "1", FIGURES + "0",
                       "9" * 61, "9" * 9000]:
            self.no_ask(small_desk(), f"stand t w {number}\nrow", f"run s {number}", f"put s two {number} a",
                        f"lift s {number} up", f"look s two {number}", f"first s one {number} b",
                        f"first s one 0 b one {number} b", f"fewest s {number} one 0 b", f"fewest s 1 one {number} b")
        for number in ["8", "9", "10", FIGURES]:
            self.no_ask(small_desk(), f"lift s {number} up", f"lift none {number} down")
        for number in range(1, 8):
            self.refused(Unfit, {"name": "s"}, small_desk().say, f"lift s {number} up")
        for row in [f"put s two {FIGURES} a", f"look s two {FIGURES}", f"first s two {FIGURES} a",
                    f"fewest s 1 two {FIGURES} a"]:
            self.refused(Unfit, {"name": "s"}, small_desk().say, row)

    def test_signs_and_lift_words(self):
        for sign in ["A", "ab", "1", "\u00e9", "-"]:
            self.no_ask(small_desk(), f"put s two 1 {sign}", f"first s one 0 {sign}", f"first s one 0 b one 1 {sign}",
                        f"fewest s 1 one 0 {sign}")
        for word in ["Up", "u", "updown", "x", "0"]:
            self.no_ask(small_desk(), f"lift s 0 {word}")

    def test_parts_of_a_wish(self):
        part = " one 0 b"
        for many in range(1, 5):
            self.assertEqual(small_desk().say("first s" + part * many), "2")
            self.assertEqual(small_desk().say("fewest s 2" + part * many), "0")
        self.no_ask(small_desk(), "first s", "fewest s 1", "fewest s", "first s" + part * 5, "fewest s 1" + part * 5,
                    "first s one 0", "first s one", "fewest s 1 one 0", "first s" + part + " one 0",
                    "first s" + part * 4 + " one", "fewest s" + part, "first s 1" + part)


class RefusedTexts(Refusals):

    def refuse(self, error, fields, desk, *rows):
        """That texts are refused, and that all is as it was, undo and redo too."""
        desk.say("run s 1")
        desk.say("undo")
        before = [desk.say(row) for row in QUESTIONS if row not in ("undo", "redo", "names")]
        for row in rows:
            self.refused(error, fields, desk.say, row)
        self.assertEqual([desk.say(row) for row in QUESTIONS if row not in ("undo", "redo", "names")], before)
        self.assertEqual(desk.say("redo"), "ok")
        desk.say("undo")

    def test_texts_within(self):
        self.refuse(Unread, {"row": 0, "word": 0}, small_desk(), "work v\n", "change w\n", "stand t w 5\n",
                    "work v\nwork v\n" + SMALL, "stand t w 5\n\nrow one aba", "work v\n\n" + SMALL)
        self.refuse(Unread, {"row": 1, "word": 2}, small_desk(), "work v\nsigns ab\nband one 13 1",
                    "change w\nsigns ab\nband one 13 1", "stand t w 5\nrow one aba\nrow two abb")
        self.refuse(Unread, {"row": 4, "word": 0}, small_desk(), "work v\n" + SMALL + "\n", "change w\n" + SMALL + "\n",
                    "work v\n" + SMALL + "\nput 1 one 0 b", "work v\n" + SMALL.replace("0 two", "3 two"))
        self.refuse(Unread, {"row": 2, "word": 0}, small_desk(), STAND.replace("s w", "t w") + "\n",
                    STAND.replace("s w", "t w") + "\nrow two abba")
        self.refuse(Unread, {"row": 1, "word": 0}, small_desk(), "stand t w 5\nrow one aba")

    def test_texts_within_go_ahead_of_the_hall(self):
        # Unread goes ahead of Taken, and of NoName but that of the work by which rows are read.
        self.refuse(Unread, {"row": 0, "word": 1}, small_desk(), "work w\nsigns ba", "change none\nsigns ba",
                    "change s\nsigns ba", "stand s w 5\nrow two abba", "stand w w 5\nrow")
        self.refuse(NoName, {"name": "none"}, small_desk(), "stand t none 5\nrow", "stand s none 5\n",
                    STAND.replace("w", "none", 1), "stand t none 5\nrow one aba\nrow two abba")
        self.refuse(NoName, {"name": "s"}, small_desk(), "stand t s 5\nrow", "stand s s 5\nrow one aba")
        self.refuse(Taken, {"name": "s"}, small_desk(), STAND, "work s\n" + SMALL, "twin s s", "twin none s")
        self.refuse(Taken, {"name": "w"}, small_desk(), STAND.replace("s w", "w w"), "work w\n" + SMALL)

    def test_as_the_hall(self):
        for row in ["run none 1", "put none six 0 z", "lift none 7 up", "look none two 1", "drop none", "twin none t",
                    "change none\n" + SMALL, "beat none", "rows none", "looks none", "many none", "sure none"]:
            self.refuse(NoName, {"name": "none"}, small_desk(), row)
        for row in ["run w 1", "put w two 1 a", "lift w 0 up", "look w two 1", "twin w t", "beat w", "rows w",
                    "looks w", "many w", "sure w", "first w one 0 b", "fewest w 1 one 0 b"]:
            self.refuse(NoName, {"name": "w"}, small_desk(), row)
        self.refuse(NoName, {"name": "s"}, small_desk(), "change s\n" + SMALL)
        self.refuse(Needed, {"name": "w", "by": "s"}, small_desk(), "drop w")
        self.refuse(Unfit, {"name": "s"}, small_desk(), "put s two 4 a", "put s six 0 a", "put s two 1 z",
                    "lift s 1 up", "look s two 4", "look s six 0")
        self.refuse(Unfit, {"name": "w"}, small_desk(), "change w\nsigns ab\nband one 3 1",
                    "change w\n" + SMALL.replace("signs ab", "signs ac").replace("ab ba", "ac ca"))
        self.refuse(Full, {"name": "s"}, small_desk(*["put s two 1 a"] * 12), "put s two 1 a", "lift s 0 up")
        self.refuse(Full, {"name": "s"}, small_desk(*["look s two 1"] * 30), "look s one 0")
        # Ahead of beat 6 an a stands above, a b below: with this table, an a would have come of it.
        self.refuse(Seen, {"name": "s", "number": 1}, small_desk("look s two 1", "run s 1", "look s two 0"),
                    "change w\n" + show_work(with_table(("aa", "aa"))))

    def test_too_long(self):
        rows = one_marked(wheels(LONG))
        desk = desk_of("work w\n" + show_work(wheels(LONG)), "stand s w 0\n" + show_rows(wheels(LONG), rows))
        self.refused(TooLong, {"beats": 1001}, desk.say, "run s 1001")
        self.refused(TooLong, {"beats": 1000}, desk.say, "first s a 0 a a 0 b")
        self.assertEqual(desk.say("beat s"), "0")
        self.assertEqual(desk.say("first s a 1 b b 1 b"), "1")

    def test_first_and_fewest(self):
        for part in ["six 0 b", "one 3 b", "one 0 z", "one 0 b one 3 b", "one 0 z one 0 b", "one 0 b six 0 z"]:
            self.refuse(Unfit, {"name": "s"}, small_desk(), "first s " + part, "fewest s 1 " + part,
                        "fewest s 61 " + part)
            self.refuse(NoName, {"name": "none"}, small_desk(), "first none " + part, "fewest none 1 " + part)
            self.refuse(NoName, {"name": "w"}, small_desk(), "first w " + part, "fewest w 1 " + part)
        self.refuse(NoSight, {"number": 0}, small_desk(), "fewest s 61 one 0 b", f"fewest s {FIGURES} one 0 b one 1 b")
        self.assertEqual(small_desk().say("fewest s 60 one 0 b"), "1")

    def test_too_many(self):
        course, (_, place) = many_reads(4)
        work = course.work()
        desk = desk_of("work w\n" + show_work(work), "stand s w 0\n" + show_rows(work, ("a",) * 6), "put s e 0 a",
                       "put s k 0 a", "run s 2", f"look s {place[0]} {place[1]}")
        for row in ["many s", "sure s"]:
            self.refused(TooMany, {"many": 200}, desk.say, row)
        self.assertEqual(desk.say("looks s"), "2 e 0 a")
        desk.say("undo")
        self.assertEqual(desk.say("many s"), str(4 ** 6))
        desk.say("undo")
        self.refused(TooMany, {"many": 200}, desk.say, "fewest s 2 e 0 a")

    def test_bands_presses_and_places(self):
        bands = [Band("rows", 1), Band("put", 2)]
        work = Work("xz", bands, [Press(("rows", 0), ("put", 1), ("zx", "xz"))])
        desk = desk_of("work names\n" + show_work(work), "stand work names 0\nrow rows x\nrow put zz")
        self.assertEqual(desk.say("rows work"), "rows x, put zz")
        self.assertEqual(desk.say("names"), "names work")
        self.assertEqual(desk.say("run work 1"), "ok")
        self.assertEqual(desk.say("rows work"), "rows x, put zx")


if __name__ == "__main__":
    unittest.main()
