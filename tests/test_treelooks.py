"""A look at trees: told ones, such as another hand wrote, and bent ones."""

import itertools
import unittest

from bandprint.bands import Band, Press, Work
from bandprint.courses import Course
from bandprint.errors import TooMany
from bandprint.treelooks import shows_tree
from bandprint.trees import tree_of
from tests.samples import (FLIP2, Refusals, chances, mixed_course, odd_things, small_work, some_course, some_rows,
                           some_work)
from tests.slowcases import (end_of_sightings, in_box, all_rows, many_leaves, shows, sightings_of, slow_boxes,
                             slow_cases, slow_grown)

A, B = ("a", 0), ("b", 0)
SPOT = ("two", 1)
SIGHTINGS = [(0, SPOT, "b"), (3, ("two", 0), "a")]


def partings(signs, chance):
    """Some parting of signs into texts, in some order."""
    parts = [""] * chance.randint(1, len(signs))
    for sign in signs:
        at = chance.randrange(len(parts))
        parts[at] = parts[at] + sign
    parts = [part for part in parts if part]
    chance.shuffle(parts)
    return parts


def other_hand(chance, course, sightings, begin, more):
    """A tree of another hand: so many splits of any places first, then as it is told, parts in any order."""
    work = course.work()
    left = [more]

    def end_of_box(box):
        places = [place for place in work.places() if len(box[place]) > 1]
        if left[0] > 0 and places:
            left[0] -= 1
            place = chance.choice(places)
            return ("split", place, partings(box[place], chance))
        end = slow_cases(course, sightings, begin, box, end_of_sightings(sightings)) or ("fits",)
        if end[0] == "split":
            parts = end[2]
            if chance.random() < 0.5:
                parts = [sign for part in parts for sign in part]
            return ("split", end[1], sorted(parts, key=lambda part: chance.random()))
        return end
    return slow_grown(work, end_of_box)


def renumbered(chance, nodes):
    """The same tree, its nodes in another order, each behind the one that it is a part of."""
    order, ready = [], [0]
    while ready:
        number = ready.pop(chance.randrange(len(ready)))
        order.append(number)
        if nodes[number][0] == "split":
            ready = ready + [child for _, child in nodes[number][2]]
    place = {number: at for at, number in enumerate(order)}
    told = [nodes[number] for number in order]
    return [("split", node[1], tuple((signs, place[child]) for signs, child in node[2])) if node[0] == "split" else node
            for node in told]


def is_so(course, sightings, nodes, begin=0):
    """Whether a list of nodes is a tree of cases, told by its definition; nodes are of the right kinds."""
    work = course.work()
    elders = [child for node in nodes if node[0] == "split" for _, child in node[2]]
    if sorted(elders) != list(range(1, len(nodes))):
        return False
    boxes = {0: {place: work.signs() for place in work.places()}}
    for number, node in enumerate(nodes):
        box = boxes.get(number)
        if box is None:
            return False
        if node[0] != "split":
            told = sightings if node == ("fits",) else [sightings[node[1]]]
            end = slow_cases(course, told, begin, box, end_of_sightings(told))
            if end != (None if node == ("fits",) else ("clashes", 0)):
                return False
            continue
        texts = [signs for signs, _ in node[2]]
        if "" in texts or any(text != "".join(sorted(text)) for text in texts):
            return False
        if sorted("".join(texts)) != list(box[node[1]]):
            return False
        for signs, child in node[2]:
            boxes[child] = {**box, node[1]: signs}
    return True


def bent(chance, work, nodes, many):
    """A tree with something bent: kinds stay as they are."""
    nodes = list(nodes)
    at = chance.randrange(len(nodes))
    node = nodes[at]
    how = chance.randrange(6)
    if how == 0:
        nodes[at] = chance.choice([("fits",), ("clashes", chance.randrange(many)), chance.choice(nodes)])
    elif how == 1:
        nodes.insert(at, chance.choice(nodes))
    elif how == 2 and len(nodes) > 1:
        del nodes[at]
    elif how == 3:
        other = chance.randrange(len(nodes))
        nodes[at], nodes[other] = nodes[other], nodes[at]
    elif node[0] == "split":
        parts = list(node[2])
        which = chance.randrange(len(parts))
        signs, child = parts[which]
        parts[which] = chance.choice([(signs[::-1], child), (signs, chance.randrange(len(nodes))), (signs[1:], child),
                                      (signs + signs, child), (chance.choice(work.signs()), child)])
        if how == 5:
            parts = chance.choice([parts[::-1], parts[1:], parts + parts[:1]])
        nodes[at] = ("split", chance.choice([node[1], node[1], chance.choice(work.places())]), tuple(parts))
    return nodes


class ByHand(Refusals):

    def lets(self, *nodes):
        """What the look says of nodes for the sightings."""
        told = shows_tree(Course(small_work()), SIGHTINGS, list(nodes))
        self.assertIsInstance(told, bool)
        return told

    def test_told_and_turned(self):
        told = tree_of(Course(small_work()), SIGHTINGS)
        self.assertEqual(told, [
            ("split", SPOT, (("b", 1), ("a", 8))),
            ("split", ("one", 0), (("a", 2), ("b", 5))),
            ("split", ("two", 3), (("a", 3), ("b", 4))), ("fits",), ("clashes", 1),
            ("split", ("two", 3), (("b", 6), ("a", 7))), ("fits",), ("clashes", 1), ("clashes", 0)])
        self.assertTrue(self.lets(*told))

    def test_other_hands(self):
        tail = [("split", ("two", 3), (("a", 3), ("b", 4))), ("fits",), ("clashes", 1),
                ("split", ("two", 3), (("a", 6), ("b", 7))), ("clashes", 1), ("fits",)]
        good = [("split", SPOT, (("a", 8), ("b", 1))), ("split", ("one", 0), (("a", 2), ("b", 5))), *tail,
                ("clashes", 0)]
        self.assertTrue(self.lets(*good))
        # A place that nobody asks, split too, by one part and by two.
        for parts in [(("ab", 1),), (("a", 1), ("b", 10)), (("b", 1), ("a", 10))]:
            more = [("split", ("one", 2), parts)]
            told = good
            for first in [1, 10][:len(parts)]:
                more = more + [self.moved(node, first) for node in told]
            self.assertTrue(self.lets(*more), more)

    def moved(self, node, many):
        """A node, its parts' numbers so many greater."""
        if node[0] != "split":
            return node
        return ("split", node[1], tuple((signs, child + many) for signs, child in node[2]))

    def test_clashes_by_what_it_needs_alone(self):
        # The first sighting clashes whatever the press reads; the second one needs that read.
        course = Course(small_work())
        self.assertTrue(shows_tree(course, [SIGHTINGS[0]],
                                   [("split", SPOT, (("b", 1), ("a", 2))), ("fits",), ("clashes", 0)]))
        two = [("split", SPOT, (("b", 1), ("a", 2))), ("fits",), ("clashes", 0)]
        self.assertFalse(shows_tree(course, SIGHTINGS, two))
        twice = [(0, SPOT, "b"), (0, SPOT, "a"), SIGHTINGS[1]]
        self.assertTrue(shows_tree(course, twice, [("split", SPOT, (("b", 1), ("a", 2))), ("clashes", 1),
                                                   ("clashes", 0)]))
        self.assertFalse(shows_tree(course, twice, [("split", SPOT, (("b", 1), ("a", 2))), ("clashes", 0),
                                                    ("clashes", 1)]))
        self.assertFalse(shows_tree(course, twice, [("split", SPOT, (("b", 1), ("a", 2))), ("clashes", 2),
                                                    ("clashes", 0)]))

    def test_a_sign_that_some_come_to_is_no_clash(self):
        course = Course(small_work())
        self.assertFalse(shows_tree(course, [(0, SPOT, "b")], [("clashes", 0)]))
        self.assertFalse(shows_tree(course, [(0, SPOT, "b")], [("fits",)]))
        self.assertTrue(shows_tree(course, [], [("fits",)]))
        self.assertFalse(shows_tree(course, [], [("clashes", 0)]))
        laid = Course(small_work(), puts=[(1, SPOT, "b")])
        self.assertTrue(shows_tree(laid, [(1, SPOT, "b")], [("fits",)]))
        self.assertTrue(shows_tree(laid, [(1, SPOT, "a")], [("clashes", 0)]))
        self.assertFalse(shows_tree(laid, [(1, SPOT, "a")], [("fits",)]))

    def test_parts_of_several_signs(self):
        course = Course(Work("abcd", [Band("a", 1), Band("b", 1)], [Press(A, B, ("abcd", "abcd", "badc", "badc"))]))
        told = [("split", A, (("ab", 1), ("cd", 4))), ("split", B, (("a", 2), ("bcd", 3))), ("fits",), ("clashes", 0),
                ("split", B, (("b", 5), ("acd", 6))), ("fits",), ("clashes", 0)]
        # The read has come to several signs, though alike in what they make.
        self.assertFalse(shows_tree(course, [(1, B, "a")], told))
        begin = [("split", A, (("bd", 1), ("ac", 2))), ("clashes", 0), ("split", A, (("c", 3), ("a", 4))),
                 ("clashes", 0),
                 ("fits",)]
        self.assertTrue(shows_tree(course, [(0, A, "a")], begin))
        self.assertFalse(shows_tree(course, [(0, A, "c")], begin))
        three = [("split", A, (("bd", 1), ("c", 2), ("a", 3))), ("clashes", 0), ("clashes", 0), ("fits",)]
        self.assertTrue(shows_tree(course, [(0, A, "a")], three))

    def test_a_part_in_which_all_come_to_the_sign(self):
        presses = [Press(B, A, ("aabb", "aabb", "aabb", "aabb"))]
        course = Course(Work("abcd", [Band("a", 1), Band("b", 1)], presses), puts=[(1, B, "a")],
                        lifts=[(0, 0, "up"), (1, 0, "down")])
        self.assertTrue(shows_tree(course, [(2, A, "a")],
                                   [("split", A, (("cd", 1), ("ab", 2))), ("clashes", 0), ("fits",)]))
        self.assertFalse(shows_tree(course, [(2, A, "a")],
                                    [("split", A, (("bc", 1), ("ad", 2))), ("clashes", 0), ("fits",)]))


class Bent(Refusals):

    TREE = [("split", SPOT, (("b", 1), ("a", 2))), ("fits",), ("clashes", 0)]

    def lets(self, thing):
        """What the look says of a thing for one sighting at begin."""
        told = shows_tree(Course(small_work()), [(0, SPOT, "b")], thing)
        self.assertIsInstance(told, bool)
        return told

    def test_the_tree_itself(self):
        self.assertTrue(self.lets(self.TREE))
        self.assertTrue(self.lets([("split", SPOT, (("a", 2), ("b", 1))), ("fits",), ("clashes", 0)]))
        self.assertTrue(self.lets([("split", SPOT, (("a", 1), ("b", 2))), ("clashes", 0), ("fits",)]))

    def test_anything(self):
        for thing in odd_things() + [tuple(self.TREE), {0: ("fits",)}, "fits", ("fits",), [["fits"]], [[]], [()],
                                     [("fits",)]]:
            self.assertFalse(self.lets(thing), thing)
        for thing in odd_things() + [("fits", 0), ["fits"], "fits", ("fit",), ("clashes",), ("clashes", 1),
                                     ("clashes", -1), ("clashes", True), ("clashes", False), ("clashes", 0.0),
                                     ("clashes", "0"), ("shows", "b"),
                                     ("same",), ("clashes", 0, 0), ["clashes", 0], ("Clashes", 0), None, ("split",),
                                     ("split", SPOT), ("split", SPOT, ()), ("split", SPOT, [])]:
            for at in range(3):
                nodes = list(self.TREE)
                nodes[at] = thing
                self.assertFalse(self.lets(nodes), nodes)

    def test_parts_of_other_kinds(self):
        left = self.TREE[1:]
        for parts in [[("b", 1), ("a", 2)], (["b", 1], ("a", 2)), (("b", True), ("a", 2)), (("b", 1.0), ("a", 2)),
                      (("b", "1"), ("a", 2)), (("b", 1, 1), ("a", 2)), (("b",), ("a", 2)), ((["b"], 1), ("a", 2)),
                      (("b", None), ("a", 2)), ((98, 1), ("a", 2)), {"b": 1, "a": 2}, "ba", None,
                      (("b", (1,)), ("a", 2)),
                      ((("b",), 1), ("a", 2)), ((True, 1), ("a", 2)), ((None, 1), ("a", 2)), ("b1", "a2")]:
            self.assertFalse(self.lets([("split", SPOT, parts), *left]), parts)
        for place in [("two", True), ["two", 1], ("two", 4), ("two", 1.0), "two", None, ("three", 1), ("two",), 1,
                      ("two", -3)]:
            self.assertFalse(self.lets([("split", place, (("b", 1), ("a", 2))), *left]), place)

    def test_splits_by_other_words(self):
        for word in ["Split", "part", "", None, 0, ("split",), ["split"]]:
            self.assertFalse(self.lets([(word, *self.TREE[0][1:]), *self.TREE[1:]]), word)

    def test_parts_that_are_not_so(self):
        left = self.TREE[1:]
        for parts in [(("b", 1),), (("a", 2),), (("b", 1), ("a", 2), ("", 3)), (("b", 1), ("b", 2)),
                      (("b", 1), ("ab", 2)),
                      (("ab", 1),), (("ba", 1),), (("b", 1), ("c", 2)), (("b", 1), ("a", 1)), (("b", 2), ("a", 2)),
                      (("b", 2), ("a", 1)), (("b", 0), ("a", 2)), (("b", 1), ("a", 0)), (("b", 1), ("a", 3)),
                      (("b", 1), ("a", -1)), (("b", 1), ("a", 2), ("c", 2)), (("bb", 1), ("a", 2)),
                      (("B", 1), ("a", 2)),
                      (("b", 1), ("a", 10 ** 30)), ()]:
            self.assertFalse(self.lets([("split", SPOT, parts), *left]), parts)
        self.assertFalse(self.lets([("split", SPOT, (("b", 1), ("", 2), ("a", 3))), ("fits",), ("clashes", 0),
                                    ("clashes", 0)]))
        self.assertFalse(self.lets([("split", SPOT, (("ba", 1),)), *[self.TREE[0]], *left]))

    def test_nodes_that_hang_otherwise(self):
        fits, clash = ("fits",), ("clashes", 0)
        split = ("split", SPOT, (("b", 2), ("a", 3)))
        one = ("split", ("one", 0), (("ab", 1),))
        self.assertTrue(self.lets([one, split, fits, clash]))
        for nodes in [
                [], self.TREE + [fits], self.TREE + [clash], [fits] + self.TREE, self.TREE[:2], self.TREE[:1],
                self.TREE[1:],
                self.TREE[::-1], [one, split, fits, clash, fits], [one, split, fits], [split, one, fits, clash],
                # A child of two splits, of itself, of a greater one.
                [("split", ("one", 0), (("a", 1), ("b", 2))), self.TREE[0], ("split", SPOT, (("b", 3), ("a", 4))),
                 fits, clash],
                [("split", ("one", 0), (("a", 1), ("b", 2))), split, ("split", SPOT, (("b", 2), ("a", 3))), clash],
                [("split", ("one", 0), (("a", 1), ("b", 2))), ("split", SPOT, (("b", 3), ("a", 4))),
                 ("split", SPOT, (("b", 3), ("a", 4))), fits, clash],
                [("split", ("one", 0), (("ab", 0),)), split, fits, clash],
                [("split", ("one", 0), (("ab", 3),)), fits, clash, ("split", SPOT, (("b", 1), ("a", 2)))],
                [("split", ("one", 0), (("ab", 2),)), ("split", SPOT, (("b", 3), ("a", 4))),
                 ("split", ("one", 1), (("ab", 1),)), fits, clash],
                [("split", ("one", 0), (("ab", 1), )), ("split", ("one", 0), (("a", 2),)),
                 ("split", SPOT, (("b", 3), ("a", 4))), fits, clash],
        ]:
            self.assertFalse(self.lets(nodes), nodes)
        again = [("split", ("one", 0), (("a", 1), ("b", 4))), ("split", ("one", 0), (("a", 2),)),
                 ("split", SPOT, (("b", 3), ("a", 5))),
                 fits, ("split", SPOT, (("b", 6), ("a", 7))), clash, fits, clash]
        self.assertTrue(self.lets(again))
        self.assertFalse(self.lets([again[0], ("split", ("one", 0), (("ab", 2),)), *again[2:]]))
        self.assertFalse(self.lets([again[0], ("split", ("one", 0), (("b", 2),)), *again[2:]]))

    def test_nothing_is_changed(self):
        thing, sightings = list(self.TREE), [(0, SPOT, "b")]
        shows_tree(course=Course(small_work()), sightings=sightings, thing=thing, begin=0)
        self.assertEqual((thing, sightings), (self.TREE, [(0, SPOT, "b")]))
        self.assertRaises(TypeError, shows_tree, Course(small_work()), sightings, thing, 0)
        moved = [(5, SPOT, "b")]
        self.assertTrue(shows_tree(Course(small_work()), moved, thing, begin=5))
        self.assertFalse(shows_tree(Course(small_work()), moved, thing))


class ByChance(Refusals):

    def some(self, chance, last=6):
        """A course, sightings of it, and a begin."""
        work = some_work(chance, longs=(1, 2, 3), presses=6)
        course = some_course(chance, work, last=last)
        begin = chance.choice([0, 0, 2])
        rows = chance.choice([None, some_rows(chance, work)])
        while True:
            sightings = sightings_of(chance, course, chance.randint(1, 4), begin, last=last, rows=rows)
            try:
                tree_of(course, sightings, begin=begin)
            except TooMany:
                continue
            return course, sightings, begin

    def test_told_trees(self):
        for chance in chances(100, 51):
            course, sightings, begin = self.some(chance)
            self.assertTrue(shows_tree(course, sightings, tree_of(course, sightings, begin=begin), begin=begin))
        course, sightings = many_leaves(8)
        self.assertTrue(shows_tree(course, sightings, tree_of(course, sightings)))

    def test_trees_of_another_hand(self):
        for chance in chances(80, 52):
            course, sightings, begin = self.some(chance)
            nodes = renumbered(chance, other_hand(chance, course, sightings, begin, chance.randint(0, 4)))
            self.assertTrue(shows_tree(course, sightings, nodes, begin=begin))
            self.assertTrue(is_so(course, sightings, nodes, begin))

    def test_more_leaves_than_a_told_tree_may_have(self):
        course = Course(Work("ab", [Band("a", 9)]))
        nodes = [("split", ("a", at), (("a", 2 * number + 1), ("b", 2 * number + 2)))
                 for at in range(9) for number in range(2 ** at - 1, 2 ** (at + 1) - 1)]
        nodes = nodes + [("fits",)] * 256 + [("clashes", 0)] * 256
        self.assertTrue(shows_tree(course, [(0, ("a", 0), "a")], nodes))
        self.assertFalse(shows_tree(course, [(0, ("a", 0), "a")], nodes[:-1] + [("fits",)]))

    def test_bent_trees(self):
        for chance in chances(400, 53):
            course, sightings, begin = self.some(chance, last=4)
            nodes = tree_of(course, sightings, begin=begin)
            if chance.random() < 0.5:
                nodes = renumbered(chance, other_hand(chance, course, sightings, begin, 2))
            thing = bent(chance, course.work(), nodes, len(sightings))
            for _ in range(chance.choice([0, 0, 1])):
                thing = bent(chance, course.work(), thing, len(sightings))
            told = shows_tree(course, sightings, thing, begin=begin)
            self.assertIs(told, is_so(course, sightings, thing, begin), thing)
            if told and len(course.work().signs()) ** len(course.work()) <= 256:
                for node, box in slow_boxes(course.work(), thing):
                    for rows in all_rows(course.work()):
                        if in_box(box, rows):
                            alone = sightings if node == ("fits",) else [sightings[node[1]]]
                            self.assertIs(shows(course, rows, alone, begin), node == ("fits",))

    def test_splits_that_are_too_few(self):
        # All trees of two splits at most: what is let by is so, and one of these is.
        course = Course(Work("ab", [Band("a", 1), Band("b", 1)], [Press(A, B, FLIP2)]))
        sightings = [(1, B, "a")]
        leaves = [("fits",), ("clashes", 0)]
        found = []
        for one, two, three in itertools.product([A, B], repeat=3):
            for ends in itertools.product(leaves, repeat=4):
                nodes = [("split", one, (("a", 1), ("b", 2))), ("split", two, (("a", 3), ("b", 4))),
                         ("split", three, (("a", 5), ("b", 6))), *ends]
                self.assertIs(shows_tree(course, sightings, nodes), is_so(course, sightings, nodes))
                if shows_tree(course, sightings, nodes):
                    found.append(nodes)
        self.assertEqual(len(found), 2)

    def test_a_mixed_course(self):
        course = mixed_course()
        sightings = [(4, ("e", 0), "a"), (2, ("ab", 4), "c"), (0, ("c", 1), "b")]
        self.assertTrue(shows_tree(course, sightings, tree_of(course, sightings)))
        self.assertFalse(shows_tree(course, sightings[::-1], tree_of(course, sightings)))


if __name__ == "__main__":
    unittest.main()
