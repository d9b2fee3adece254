"""Maps of signs."""

import itertools
import unittest

from bandprint.errors import NotOne
from bandprint.maps import is_one_to_one, map_round, power, sources, times_to, together, turned_map
from tests.samples import FAR, Refusals


def all_maps(signs):
    """All maps of signs."""
    return ["".join(each) for each in itertools.product(signs, repeat=len(signs))]


def done(signs, one, times):
    """A map done so many times, one by one."""
    told = signs
    for _ in range(times):
        told = "".join(one[signs.index(sign)] for sign in told)
    return told


class Maps(Refusals):

    def test_together(self):
        self.assertEqual(together("abc", "bca", "aab"), "aba")
        self.assertEqual(together("abc", "aab", "bca"), "bbc")
        self.assertEqual(together("abc", "abc", "cab"), "cab")
        self.assertEqual(together("abc", "cab", "abc"), "cab")
        self.assertEqual(together("kz", "zz", "zk"), "kk")
        self.assertEqual(together(signs="ab", one="bb", other="ba"), "aa")
        for one, other in itertools.product(all_maps("acx"), repeat=2):
            due = "".join(other["acx".index(one["acx".index(sign)])] for sign in "acx")
            self.assertEqual(together("acx", one, other), due)

    def test_power(self):
        self.assertEqual([power("abc", "bca", times) for times in range(5)], ["abc", "bca", "cab", "abc", "bca"])
        self.assertEqual([power("abcd", "aabc", times) for times in range(5)], ["abcd", "aabc", "aaab", "aaaa", "aaaa"])
        self.assertEqual([power("ab", "bb", times) for times in range(3)], ["ab", "bb", "bb"])
        self.assertEqual(power("abcd", "bcda", 0), "abcd")
        self.assertEqual((FAR % 4, FAR % 3), (0, 1))
        self.assertEqual(power("abcd", "bcda", FAR), "abcd")
        self.assertEqual(power("abcd", "bcda", FAR - 1), "dabc")
        self.assertEqual(power("abcd", "bcaa", FAR), "bcaa")
        self.assertEqual(power("abcd", "bcaa", FAR - 1), "abcc")
        self.assertEqual(power(signs="abcd", one="aabc", times=FAR), "aaaa")

    def test_power_of_all_maps(self):
        for one in all_maps("abcd"):
            for times in range(9):
                self.assertEqual(power("abcd", one, times), done("abcd", one, times))
            # 12 is a multiple of all rounds of four signs, 3 no less than each from.
            for times in [12 * 10 ** 40 + 3, 12 * 10 ** 40 + 8, FAR]:
                self.assertEqual(power("abcd", one, times), done("abcd", one, 12 + times % 12))

    def test_rounds(self):
        self.assertEqual(map_round("abc", "abc"), (0, 1))
        self.assertEqual(map_round("abc", "bca"), (0, 3))
        self.assertEqual(map_round("abcd", "aabc"), (3, 1))
        self.assertEqual(map_round("abcd", "bbbb"), (1, 1))
        self.assertEqual(map_round("abcd", "badb"), (2, 2))
        self.assertEqual(map_round("abcd", "badc"), (0, 2))
        self.assertEqual(map_round(signs="ab", one="ba"), (0, 2))
        for one in all_maps("abcd"):
            told = [done("abcd", one, times) for times in range(20)]
            first = min(at for at in range(4) if told[at] in told[at + 1:])
            self.assertEqual(map_round("abcd", one), (first, told[first + 1:].index(told[first]) + 1))

    def test_times_to(self):
        self.assertEqual([times_to("abc", "bca", other) for other in ["abc", "bca", "cab"]], [0, 1, 2])
        self.assertIsNone(times_to("abc", "bca", "acb"))
        self.assertEqual([times_to("abcd", "aabc", other) for other in ["abcd", "aabc", "aaab", "aaaa"]], [0, 1, 2, 3])
        self.assertEqual(times_to("abc", "abc", "abc"), 0)
        self.assertIsNone(times_to("abc", "aaa", "bbb"))
        self.assertIs(times_to(signs="ab", one="ab", other="ba"), None)
        for one, other in itertools.product(all_maps("abc"), repeat=2):
            told = [done("abc", one, times) for times in range(8)]
            self.assertEqual(times_to("abc", one, other), told.index(other) if other in told else None)

    def test_one_to_one(self):
        for signs in ["ab", "axz", "abcd"]:
            for one in all_maps(signs):
                self.assertIs(is_one_to_one(signs, one), len(set(one)) == len(signs))
        self.assertIs(is_one_to_one(signs="abc", one="bca"), True)

    def test_turned_back(self):
        self.assertEqual(turned_map("abc", "bca"), "cab")
        self.assertEqual(turned_map("abcd", "badc"), "badc")
        self.assertEqual(turned_map(signs="kmz", one="mzk"), "zkm")
        for one in all_maps("abcd"):
            if is_one_to_one("abcd", one):
                self.assertEqual(together("abcd", one, turned_map("abcd", one)), "abcd")
                self.assertEqual(together("abcd", turned_map("abcd", one), one), "abcd")
            else:
                missing = [sign for sign in "abcd" if sign not in one]
                self.refused(NotOne, {"sign": missing[0]}, turned_map, "abcd", one)

    def test_not_one_tells_the_first_sign_that_none_becomes(self):
        self.refused(NotOne, {"sign": "b"}, turned_map, "abcd", "aacc")
        self.refused(NotOne, {"sign": "a"}, turned_map, "abcd", "dddd")
        self.refused(NotOne, {"sign": "d"}, turned_map, "abcd", "abcc")
        self.refused(NotOne, {"sign": "k"}, turned_map, "kz", "zz")

    def test_sources(self):
        self.assertEqual([sources("abcd", "baab", sign) for sign in "abcd"], ["bc", "ad", "", ""])
        self.assertEqual(sources("abc", "bca", "a"), "c")
        self.assertEqual(sources(signs="kz", one="zz", sign="z"), "kz")
        for one in all_maps("axz"):
            for sign in "axz":
                due = "".join(each for each in "axz" if one["axz".index(each)] == sign)
                self.assertEqual(sources("axz", one, sign), due)


if __name__ == "__main__":
    unittest.main()
