"""Fillings made least, and tables of two terms."""

import itertools
import random
import unittest

from common import (ONE_FILLING_OR_NONE, SEVERAL_FILLINGS, as_lists, assert_cover_each_other, assert_make_alike, assert_none_missing, assert_none_too_many, crowded, goes_through, kinds,
                    not_too_much, odd_things, planted, sample_signs, set_otherwise, signs_of_sums, signs_with_noughts, some_term, too_much, wishes_of_two)
from likefill.cover import cover
from likefill.errors import NoFilling, NoTerm, TooMuch
from likefill.fillings import looked_over
from likefill.tables import made_least, table
from likefill.terms import flat

UNIVERSE = ["a", "z", "o", "?q", ("f", "a"), ("f", "z"), ("s", "a", "a"), ("s", "a", "o"), ("t", "a", "?q"), ("s", "a", ("t", "a", "a"))]


# two terms of which a search part by part is apt to find fillings that are others further
APT_TO_BE_TOO_MANY = [
    (("s", "?x", "?y"), ("s", ("f", "?v"), ("f", "?w"))), (("s", "?x", "?y"), ("s", ("f", "?x"), ("f", "?v"))), (("s", "?x", "?y", ("f", "?x"), ("f", "?y")), ("s", "?v", "?w", ("f", "?v"))),
    (("g", ("t", "?w", "?y"), ("s", "?x", "a")), ("g", ("t", "?v", "b"), ("s", "?w", "b"))), (("g", ("t", "?y", "b"), ("s", "?y", "b")), ("g", ("t", "?w", "?x"), ("s", "?v", "?w"))),
    (("g", ("s", "?y", "?y"), ("t", "?x", "?y")), ("g", ("s", "?v", "?v"), ("t", "?v", "?w"))), (("g", ("s", "?x", "?x"), ("t", "?w", "?y")), ("g", ("s", "?v", "?y"), ("t", "?x", "a"))),
    (("g", ("s", "?y", ("f", "?y")), ("t", "?v", "?y")), ("g", ("s", "?v", "?x"), ("t", "?w", "a"))), (("s", ("t", "?x", "?y"), ("t", "?v", "?w")), ("s", ("t", "?x", "?w"), ("t", "?y", "?v"))),
    (("s", ("t", "?x", "?x"), "?w"), ("s", ("t", "a", "?v"), ("t", "?v", "?y"))), (("t", "?y", ("s", "a", "?y"), ("s", "b", "?y")), ("t", "?x", ("s", "?v", "?w"))),
]


class MadeLeast(unittest.TestCase):
    def assert_least(self, fillings, some, wanted):
        told = made_least(sample_signs(), fillings, some)
        self.assertIs(type(told), list)
        self.assertEqual(sorted(str(kinds(filling)) for filling in told), sorted(str(kinds(filling)) for filling in wanted), (fillings, some))

    def test_none_and_one(self):
        for some in ([], ["?x"], ["?x", "?y"]):
            self.assert_least([], some, [])
            self.assert_least([{}], some, [{}])
            self.assert_least(({"?x": "a"},), some, [{"?x": "a"}])

    def test_the_same_twice(self):
        self.assert_least([{"?x": "a"}, {"?x": "a"}], ["?x"], [{"?x": "a"}])
        self.assert_least([{"?x": ("s", "a", "b")}, {"?x": ["s", "b", "z", "a"]}, {"?x": ("f", "a")}], ["?x"], [{"?x": ("s", "a", "b")}, {"?x": ("f", "a")}])
        self.assert_least([{}, {"?x": "?x"}, {"?y": ["s", "?y", "z"]}], ["?x", "?y"], [{}])

    def test_the_earlier_of_two_that_are_each_other_further(self):
        one, other = {"?x": ("f", "?1"), "?y": "?1"}, {"?x": ("f", "?2"), "?y": "?2"}
        self.assert_least([one, other], ["?x", "?y"], [one])
        self.assert_least([other, one], ["?x", "?y"], [other])
        self.assert_least([{"?x": "?1"}, {}, {"?x": "?y"}], ["?x"], [{"?x": "?1"}])
        self.assert_least([{}, {"?x": "?1"}, {"?x": "?y"}], ["?x"], [{}])
        self.assert_least([{"?x": ("s", "?1", "?2")}, {}], ["?x"], [{"?x": ("s", "?1", "?2")}])
        self.assert_least([{}, {"?x": ("s", "?1", "?2")}], ["?x"], [{}])
        self.assert_least([{"?x": "a"}, other, {"?x": ("f", "a"), "?y": "a"}, one], ["?x", "?y"], [{"?x": "a"}, other])

    def test_what_is_another_one_further_falls_away(self):
        self.assert_least([{"?x": "a"}, {}], ["?x"], [{}])
        self.assert_least([{}, {"?x": "a"}], ["?x"], [{}])
        self.assert_least([{"?x": ("u", "a", "b", "b")}, {"?x": ("u", "?1", "?2")}, {"?x": ("u", "?1", "a")}, {"?x": "a"}], ["?x"], [{"?x": ("u", "?1", "?2")}, {"?x": "a"}])
        self.assert_least([{"?x": ("s", "a", "b", "b")}, {"?x": ("s", "?1", "?1", "?2")}, {"?x": ("s", "?1", "?1")}], ["?x"], [{"?x": ("s", "?1", "?1", "?2")}])
        self.assert_least([{"?x": "a"}, {"?x": ("f", "?1")}, {"?x": ("f", ("f", "?1"))}, {"?x": "b"}], ["?x"], [{"?x": "a"}, {"?x": ("f", "?1")}, {"?x": "b"}])
        self.assert_least([{"?x": "a"}, {"?x": ("s", ("t", "?1", "?2"), "a")}], ["?x"], [{"?x": ("s", "a", ("t", "?1", "?2"))}])

    def test_what_vanishes_as_wishes_are_filled(self):
        for one, other in [
            (("s", "a", ("t", "?1", "z")), "a"), (("u", "a", ("s", "?1", ("u", "a", "b"))), ("u", "a", "a", "b")), (("u", "a", ("s", "?1", "?2")), ("u", "a", "z")), (("t", "?1", "?2", "?3"), "b"),
            (("f", ("s", ("t", "?1", "?2"), ("t", "?3", "?4"))), ("f", "z")), (("s", "?1", ("f", ("t", "?1", "?2", "a"))), ("f", ("t", "a", "z"))), (("u", ("s", "?1", ("t", "?2", ("u", "?3", "b"))), "a"), ("u", "a", "a", "b")),
        ]:
            self.assert_least([{"?x": one}, {"?x": other}], ["?x"], [{"?x": flat(sample_signs(), one)}])
            self.assert_least([{"?x": other}, {"?x": one}], ["?x"], [{"?x": flat(sample_signs(), one)}])

    def test_some_wishes_alone_and_told_whole(self):
        one, other, third = {"?x": "a", "?y": "b", "?v": ["s", "z", "b", "a"], "?w": ["t", "?w", "o"]}, {"?x": "a", "?y": "a"}, {"?x": "b", "?y": "b"}
        whole = {"?x": "a", "?y": "b", "?v": ("s", "a", "b")}
        self.assert_least([one, other, third], ["?x"], [whole, third])
        self.assert_least([other, one, third], ["?x"], [other, third])
        self.assert_least([one, other, third], ("?y",), [whole, other])
        self.assert_least([one, other, third], ["?x", "?y", "?x"], [whole, other, third])
        self.assert_least([one, other, third], [], [whole])
        self.assert_least([third, one, other], [], [third])

    def test_as_by_trying(self):
        for signs, seed in itertools.product(signs_with_noughts(), range(40)):
            chance = random.Random(seed)
            leaf_names = ["?x", "?1", "?2", "a", "b"] + [nought for name, nought in signs.sums() if nought != ""]
            sum_names = [name for name, nought in signs.sums()]
            fillings = [{wish: some_term(chance, chance.randint(1, 3), leaf_names, sum_names) for wish in ["?x", "?y"] if chance.random() < 0.8} for time in range(chance.randint(2, 8))]
            some = ["?x", "?y"][:chance.randint(1, 2)]
            looked = [looked_over(signs, filling) for filling in fillings]
            through = [[goes_through(signs, one, other, some) for other in looked] for one in looked]
            places = range(len(looked))
            wanted = [looked[at] for at in places if not any(through[by][at] and (by < at or not through[at][by]) for by in places if by != at)]
            self.assertEqual(sorted(map(str, map(kinds, made_least(signs, fillings, some)))), sorted(map(str, map(kinds, wanted))), (signs.sums(), fillings, some))

    def test_what_is_no_filling(self):
        signs = sample_signs()
        for wrong in [thing for thing in odd_things() if not (isinstance(thing, dict) and not thing)] + [{"x": "a"}, {"?x": "nix"}, {"?x": ("s", "a")}]:
            for fillings in ([wrong], [{}, wrong], [wrong, {}], [{"?x": "a"}, {"?x": "b"}, wrong]):
                self.assertRaises(NoFilling, made_least, signs, fillings, ["?x"])


class Table(unittest.TestCase):
    def assert_table(self, signs, one, other, told):
        assert_make_alike(self, signs, one, other, told)
        assert_none_too_many(self, signs, one, other, told)

    def test_one_filling_or_none(self):
        signs = signs_of_sums(("s", "z"), ("t", "o"), ("u", ""))
        for one, other, wanted in ONE_FILLING_OR_NONE:
            for left, right in ((one, other), (other, one), (as_lists(one), as_lists(other))):
                told = table(signs, left, right)
                self.assert_table(signs, one, other, told)
                self.assertEqual(len(told), 0 if wanted is None else 1, (one, other, told))
                assert_cover_each_other(self, signs, wishes_of_two(signs, one, other), told, [] if wanted is None else [wanted])

    def test_several_fillings(self):
        signs = signs_of_sums(("s", "z"), ("t", "o"), ("u", ""))
        for one, other in SEVERAL_FILLINGS:
            told = table(signs, one, other)
            self.assertGreater(len(told), 1, (one, other))
            self.assert_table(signs, one, other, told)
            assert_none_missing(self, signs, flat(signs, one), flat(signs, other), told, UNIVERSE)

    def test_none_too_many(self):
        for signs, (one, other) in itertools.product(signs_with_noughts(), APT_TO_BE_TOO_MANY):
            told = table(signs, one, other)
            self.assertTrue(told)
            self.assert_table(signs, one, other, told)
            assert_cover_each_other(self, signs, wishes_of_two(signs, one, other), told, cover(signs, one, other))

    def test_how_many(self):
        bare, noughts = signs_of_sums(("s", ""), ("t", "")), signs_of_sums(("s", "z"), ("t", "o"))
        for one, other, without, with_noughts in [
            (("s", "?x", "?y"), ("s", "?v", "?w"), 7, 1), (("s", "?x", "?x"), ("s", "?y", "?v"), 5, 1), (("s", "?x", "a"), ("s", "?y", "b"), 2, 1), (("s", "?x", "?y"), ("s", "a", "b"), 2, 4),
            (("s", "?x", "?y", "?v"), "?w", 1, 1), (("f", ("s", "?x", "?y")), ("f", ("s", "?v", "?w")), 7, 1), (("t", ("s", "?x", "?y"), ("s", "?v", "?w")), ("t", ("s", "a", "b"), ("s", "a", "b")), 4, 24),
            (("s", ("f", "?x"), ("f", "?y")), ("s", ("f", "a"), ("f", "b")), 2, 2), (("s", ("f", "?x"), "?y"), ("s", ("f", "a"), "?v"), 3, 2), (("s", "?x", ("t", "?x", "a")), ("s", "?y", ("t", "?y", "a")), 1, 1),
            (("s", ("t", "?x", "?y"), "a"), ("s", "a", "a"), 0, 2), (("g", ("s", "?x", "?y"), "?x"), ("g", ("s", "a", "a"), "?y"), 1, 1), (("s", "?x", "?y"), "z", 0, 1), (("s", "?x", "?x"), ("s", "a", "b"), 0, 0),
            (("s", "?x", "?y"), ("s", ("f", "?v"), ("f", "?w")), 2, 4),
        ]:
            self.assertEqual((len(table(bare, one, other)), len(table(noughts, one, other))), (without, with_noughts), (one, other))

    def test_fillings_that_are_known_to_fit(self):
        tried = 0
        for signs, seed in itertools.product(signs_with_noughts(), range(500, 580)):
            chance = random.Random(seed)
            one, other, filling = planted(chance, signs, ["?x", "?y", "?v", "?w"][:chance.randint(1, 4)])
            try:
                told = table(signs, one, other)
            except TooMuch:
                continue
            tried += 1
            self.assertTrue(any(goes_through(signs, each, filling, wishes_of_two(signs, one, other)) for each in told), (signs.sums(), one, other, filling))
            self.assert_table(signs, one, other, told if len(told) < 12 else told[:6] + told[-6:])
        self.assertGreater(tried, 250)

    def test_crowded_sums(self):
        counts = []
        for signs, seed in itertools.product(signs_with_noughts(), range(60)):
            one, other = crowded(random.Random(seed), signs, ["?x", "?y", "?v"])
            try:
                told = table(signs, one, other)
            except TooMuch:
                continue
            counts.append(len(told))
            self.assert_table(signs, one, other, told if len(told) < 12 else told[:6] + told[-6:])
            assert_none_missing(self, signs, flat(signs, one), flat(signs, other), told, UNIVERSE[:8])
        self.assertGreater(len([many for many in counts if many > 1]), 60)

    def test_covers_as_cover_does(self):
        for signs, seed in itertools.product(signs_with_noughts(), range(40)):
            chance = random.Random(seed)
            one, other, filling = planted(chance, signs, ["?x", "?y", "?v"])
            try:
                covering = cover(signs, one, other)
            except TooMuch:
                continue
            if len(covering) < 20:
                assert_cover_each_other(self, signs, wishes_of_two(signs, one, other), covering, table(signs, one, other))

    def test_as_many_exchanged_and_set_otherwise(self):
        counts = []
        for signs, seed in itertools.product(signs_with_noughts(), range(300, 360)):
            chance = random.Random(seed)
            one, other = crowded(chance, signs, ["?x", "?y", "?v"]) if seed < 340 else planted(chance, signs, ["?x", "?y", "?v"])[:2]
            try:
                counts.append(len(table(signs, one, other)))
            except TooMuch:
                continue
            self.assertEqual(len(table(signs, other, one)), counts[-1], (signs.sums(), one, other))
            self.assertEqual(len(table(signs, set_otherwise(chance, signs, one), as_lists(set_otherwise(chance, signs, other)))), counts[-1], (signs.sums(), one, other))
        self.assertGreater(len([many for many in counts if many > 1]), 30)


class Refused(unittest.TestCase):
    def test_what_is_no_term(self):
        for wrong in odd_things() + ["nix", ("s", "a"), ("s", "a", ("f", "nix"))]:
            for other in ("a", wrong, ("s",) + ("a",) * 7):
                self.assertRaises(NoTerm, table, sample_signs(), wrong, other)
                self.assertRaises(NoTerm, table, sample_signs(), other, wrong)

    def test_what_is_too_much(self):
        for signs, (one, other) in itertools.product((sample_signs(), signs_of_sums(("s", ""), ("t", ""))), too_much()):
            self.assertRaises(TooMuch, table, signs, one, other)
            self.assertRaises(TooMuch, table, signs, as_lists(other), as_lists(one))

    def test_what_is_not_too_much(self):
        for signs, (one, other) in itertools.product((sample_signs(), signs_of_sums(("s", ""), ("t", ""))), not_too_much()):
            self.assertTrue(table(signs, one, other), (one, other))


if __name__ == "__main__":
    unittest.main()
