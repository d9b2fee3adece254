"""Names, signs, places and the four numbers."""

import unittest

from bandprint import signs
from bandprint.signs import are_signs, is_name, is_place
from tests.samples import FAR, odd_things


class Signs(unittest.TestCase):

    def test_numbers(self):
        told = (signs.LONGEST, signs.DEEPEST, signs.MOST, signs.STANDS)
        self.assertEqual(told, (1000, 60, 200, 2000))
        self.assertEqual([type(number) for number in told], [int] * 4)

    def test_names(self):
        for name in ["a", "z", "up", "abcdefgh", "aaaaaaaa", "zyx"]:
            self.assertIs(is_name(name), True)
        for name in ["", "abcdefghi", "A", "aB", "a1", "a b", " a", "a\n", "\u00e9", "\u00df", "a-", "\uff41"]:
            self.assertIs(is_name(name), False)

    def test_names_of_anything(self):
        for thing in odd_things() + [0, 1, FAR, ["a"], ("a",), ("a", "b")]:
            self.assertIs(is_name(thing), False)
        self.assertIs(is_name(thing="a"), True)

    def test_signs(self):
        for text in ["ab", "az", "abc", "axz", "abcd", "wxyz"]:
            self.assertIs(are_signs(text), True)
        for text in ["", "a", "abcde", "ba", "aa", "aab", "abb", "abcc", "acb", "abdc", "aB", "a1", "a b", "a\u00e9",
                     "AB", "-a", "ab\n"]:
            self.assertIs(are_signs(text), False)

    def test_signs_of_anything(self):
        for thing in odd_things() + [0, 12, ("a", "b"), ["a", "b"], {"a": "b", "b": "a"}]:
            self.assertIs(are_signs(thing), False)
        self.assertIs(are_signs(thing="ab"), True)

    def test_places(self):
        for place in [("a", 0), ("abcdefgh", 11), ("z", 12), ("a", FAR)]:
            self.assertIs(is_place(place), True)
        for place in [("", 0), ("abcdefghi", 0), ("A", 0), ("a", -1), ("a", -FAR), ("a", 1.0), ("a", "0"), ("a", None),
                      ("a", True), ("a", False), (0, "a"), (0, 0), ("a",), ("a", 0, 0), ["a", 0], {"a": 0}, "a0",
                      (("a", 0),), (["a"], 0), ("a", [0]), ("a", (0,))]:
            self.assertIs(is_place(place), False)

    def test_places_of_anything(self):
        for thing in odd_things():
            self.assertIs(is_place(thing), False)
            self.assertIs(is_place((thing, 0)), False)
            self.assertIs(is_place(("a", thing)), False)
        self.assertIs(is_place(0), False)
        self.assertIs(is_place(thing=("a", 0)), True)


if __name__ == "__main__":
    unittest.main()
