"""A third filling by which one filling, further, is another one."""

import itertools
import random
import unittest

from common import goes_through, kinds, odd_things, sample_signs, signs_of_sums, signs_with_noughts, small_terms, some_term
from likefill.errors import NoFilling
from likefill.fillings import filled, further, looked_over
from likefill.terms import flat
from likefill.through import through

NAMES = ["?x", "?y", "?v"]

# of the sums s with nought z, t with nought o, u with none: the one, the other, some wishes, and whether it goes through
BY_HAND = [
    ({}, {}, [], True), ({}, {}, ["?x", "?y"], True), ({}, {"?x": "a"}, ["?x"], True), ({"?x": "a"}, {}, ["?x"], False), ({"?x": "a"}, {}, ["?y"], True), ({"?x": "a"}, {"?x": "b"}, ["?x"], False),
    ({"?x": "a"}, {"?x": "b"}, [], True), ({"?x": "?y"}, {}, ["?x"], True), ({"?x": "?y"}, {}, ["?x", "?y"], False), ({}, {"?x": "?y"}, ["?x", "?y"], True), ({"?x": "?y", "?y": "?x"}, {}, ["?x", "?y"], True),
    ({"?x": ("f", "?y")}, {"?x": ("f", "a")}, ["?x"], True), ({"?x": ("f", "?y")}, {"?x": ("f", "a")}, ["?x", "?y"], False), ({"?x": ("f", "?y")}, {"?x": ("f", "a"), "?y": "a"}, ["?x", "?y"], True),
    ({"?x": ("f", "?x")}, {"?x": ("f", ("f", "?x"))}, ["?x"], True), ({"?x": ("f", ("f", "?x"))}, {"?x": ("f", "?x")}, ["?x"], False), ({"?x": "?x"}, {"?x": "a"}, ["?x"], True),
    # sums without and with noughts
    ({"?x": ("u", "?1", "?2")}, {"?x": ("u", "a", "b", "b")}, ["?x"], True), ({"?x": ("u", "?1", "?2")}, {"?x": "a"}, ["?x"], False), ({"?x": ("s", "?1", "?2")}, {"?x": "a"}, ["?x"], True),
    ({"?x": ("s", "?1", "?2")}, {}, ["?x"], True), ({}, {"?x": ("s", "?1", "?2")}, ["?x"], True), ({"?x": ("s", "?1", "?1")}, {}, ["?x"], False), ({"?x": ("s", "?1", "?1")}, {"?x": "z"}, ["?x"], True),
    ({"?x": ("s", "?1", "a")}, {"?x": "a"}, ["?x"], True), ({"?x": ("s", "?1", "a")}, {"?x": "z"}, ["?x"], False), ({"?x": ("s", "?1", "?2"), "?y": ("s", "?1", "?3")}, {"?x": "a", "?y": "b"}, ["?x", "?y"], True),
    ({"?x": ("s", "?1", "?2"), "?y": "?1"}, {"?x": "a", "?y": "b"}, ["?x", "?y"], False), ({"?x": ("s", "?1", "?1", "?2")}, {"?x": ("s", "a", "a", "a", "b")}, ["?x"], True),
    ({"?x": ("s", "?1", "?1"), "?y": ("s", "?1", "?2")}, {"?x": ("s", "a", "a", "b", "b"), "?y": ("s", "a", "b")}, ["?x", "?y"], True),
    ({"?x": ("s", "?1", "?1"), "?y": ("s", "?1", "?2")}, {"?x": ("s", "a", "a", "b", "b"), "?y": ("s", "a", "o")}, ["?x", "?y"], False),
    ({"?x": ("u", ("f", "?1"), "?2")}, {"?x": ("u", ("f", "a"), ("f", "b")), "?y": "b"}, ["?x"], True), ({"?x": ("u", ("f", "?1"), "?2"), "?y": "?1"}, {"?x": ("u", ("f", "a"), ("f", "b")), "?y": "b"}, ["?x", "?y"], True),
    ({"?x": ("u", ("f", "?1"), "?2"), "?y": "?1"}, {"?x": ("u", ("f", "a"), ("f", "b")), "?y": "z"}, ["?x", "?y"], False), ({"?x": ("u", "?1", "?2"), "?y": ("u", "?1", "?3")}, {"?x": ("u", "a", "b"), "?y": ("u", "o", "z")}, ["?x", "?y"], False),
    ({"?x": ("u", "?1", "?2"), "?y": ("u", "?2", "?2")}, {"?x": ("u", "a", "b"), "?y": ("u", "b", "b")}, ["?x", "?y"], True), ({"?x": ("u", "?1", "?2"), "?y": ("u", "?2", "?2")}, {"?x": ("u", "a", "b"), "?y": ("u", "a", "a")}, ["?x", "?y"], True),
    ({"?x": ("u", "?1", "?2"), "?y": ("u", "?2", "?2")}, {"?x": ("u", "a", "b"), "?y": ("u", "a", "b")}, ["?x", "?y"], False),
    # a sum that falls away, a wish in sums of two signs
    ({"?x": ("s", ("t", "?1", "?2"), "a")}, {"?x": "a"}, ["?x"], True), ({"?x": ("s", ("t", "?1", "?2"), "a")}, {"?x": ("s", "a", "b", "b")}, ["?x"], True), ({"?x": ("s", ("t", "?1", "?1"), "a")}, {"?x": "a"}, ["?x"], False),
    ({"?x": ("s", "?1", "?2"), "?y": ("t", "?1", "?3")}, {"?x": ("s", "a", "b"), "?y": ("t", ("s", "a", "b"), "a")}, ["?x", "?y"], True), ({"?x": ("s", "?1", "b"), "?y": ("t", "?1", "a")}, {"?x": "b", "?y": ("t", "a", "z")}, ["?x", "?y"], True),
    ({"?x": ("s", "?1", "b"), "?y": ("t", "?1", "a")}, {"?x": "b", "?y": "a"}, ["?x", "?y"], False), ({"?x": ("s", "?1", "?2"), "?y": ("t", "?1", "?2")}, {"?x": "o", "?y": "z"}, ["?x", "?y"], True),
    ({"?x": ("u", ("s", "?1", "a"), "b")}, {"?x": ("u", "a", "b")}, ["?x"], True), ({"?x": ("u", ("s", "?1", "a"), "b")}, {"?x": ("u", "b", "b")}, ["?x"], False),
]


class Through(unittest.TestCase):
    def assert_by(self, signs, one, other, some, third):
        self.assertEqual(kinds(looked_over(signs, third)), kinds(third))
        for wish in some:
            self.assertEqual(filled(signs, third, filled(signs, one, wish)), filled(signs, other, wish), (signs.sums(), one, other, third))

    def test_by_hand(self):
        signs = sample_signs()
        for one, other, some, goes in BY_HAND:
            for asked in (some, tuple(some), some[::-1] + some):
                told = through(signs, one, other, asked)
                self.assertEqual(told is not None, goes, (one, other, some, told))
                if goes:
                    self.assert_by(signs, one, other, some, told)

    def test_a_filling_further_goes_through(self):
        for signs, seed in itertools.product(signs_with_noughts(), range(150)):
            chance = random.Random(seed)
            one, third = self.some_filling(chance, signs, 4), self.some_filling(chance, signs, 3)
            other = further(signs, one, third)
            for some in (NAMES, NAMES[:1], NAMES[1:], [], NAMES + ["?1", "?2", "?w"]):
                told = through(signs, one, other, some)
                self.assertIsNotNone(told, (signs.sums(), one, third, other))
                self.assert_by(signs, one, other, some, told)

    def some_filling(self, chance, signs, size):
        noughts = [nought for name, nought in signs.sums() if nought != ""]
        leaf_names = ["?x", "?y", "?1", "?2", "?1", "a", "b"] + noughts
        sum_names = [name for name, nought in signs.sums()]
        return {wish: some_term(chance, chance.randint(1, size), leaf_names, sum_names) for wish in NAMES + ["?1", "?2"] if chance.random() < 0.7}

    def test_as_by_trying(self):
        counts = [0, 0]
        for signs, seed in itertools.product(signs_with_noughts(), range(400)):
            chance = random.Random(seed)
            one, other = self.some_filling(chance, signs, 3), self.some_filling(chance, signs, 3)
            some = NAMES[:chance.randint(1, 2)]
            told = through(signs, one, other, some)
            self.assertEqual(told is not None, goes_through(signs, looked_over(signs, one), looked_over(signs, other), some), (signs.sums(), one, other, some))
            counts[told is not None] += 1
        self.assertGreater(min(counts), 100)

    def test_all_small_terms(self):
        signs = signs_of_sums(("s", "z"), ("t", "o"))
        terms = sorted({flat(signs, term) for term in small_terms(["?x", "?y", "a"], [], ["s", "t"], 3)}, key=str)
        for place, term in enumerate(terms):
            for thing in terms[place % 11::11]:
                one, other = {"?v": term}, {"?v": thing, "?x": "a"}
                told = through(signs, one, other, ["?v"])
                self.assertEqual(told is not None, goes_through(signs, one, other, ["?v"]), (term, thing))
                if told is not None:
                    self.assert_by(signs, one, other, ["?v"], told)

    def test_terms_as_they_stand(self):
        signs = sample_signs()
        one, other = {"?x": ["s", ["s", "z", "?y"], ["f", ["s", "?y", "z"]]], "?v": ["s", "?v", "z"]}, {"?x": ("s", ["f", "a"], "a"), "?w": ["t", "?w", "o"]}
        self.assertEqual(kinds(through(signs, one, other, ["?x", "?v", "?w"])), kinds({"?y": "a"}))

    def test_what_is_told_is_looked_over(self):
        signs = sample_signs()
        self.assertEqual(through(signs, {}, {}, ["?x", "?y"]), {})
        self.assertEqual(through(signs, {"?x": ("f", "?y")}, {"?x": ("f", "?y")}, ["?x", "?v"]), {})

    def test_long_fillings(self):
        signs = sample_signs()
        parts = tuple(f"?{number}" for number in range(1, 41))
        for name in "stu":
            self.assertIsNotNone(through(signs, {"?x": (name,) + parts[:12]}, {"?x": (name,) + parts}, ["?x"]))
            self.assertIsNotNone(through(signs, {"?x": (name,) + parts, "?y": (name,) + parts[::2]}, {"?x": (name,) + parts[::-1], "?y": (name,) + parts[1::2]}, ["?x", "?y"]))
        self.assertIsNone(through(signs, {"?x": ("u",) + parts}, {"?x": ("u",) + parts[:-1]}, ["?x"]))
        self.assertIsNotNone(through(signs, {"?x": ("s",) + parts}, {"?x": ("s",) + parts[:-1]}, ["?x"]))


class Refused(unittest.TestCase):
    def test_what_is_no_filling(self):
        signs = sample_signs()
        wrongs = [thing for thing in odd_things() if not (isinstance(thing, dict) and not thing)]
        for wrong in wrongs + [{"x": "a"}, {"?x": "nix"}, {"?x": ("s", "a")}, {1: "a"}, {"?x": None}]:
            for right in ({}, {"?x": "a"}, wrong):
                for some in ([], ["?x"]):
                    self.assertRaises(NoFilling, through, signs, wrong, right, some)
                    self.assertRaises(NoFilling, through, signs, right, wrong, some)


if __name__ == "__main__":
    unittest.main()
