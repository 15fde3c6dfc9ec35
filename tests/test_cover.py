"""Fillings that cover two terms, of any signs."""

import itertools
import random
import unittest

from common import (ONE_FILLING_OR_NONE, SEVERAL_FILLINGS, as_lists, assert_cover_each_other, assert_make_alike, assert_none_missing, goes_through, not_too_much, odd_things, planted, sample_signs, set_otherwise, signs_of_sums,
                    signs_with_noughts, small_terms, too_much, wishes_of_two)
from likefill.cover import cover
from likefill.errors import NoTerm, TooMuch
from likefill.onesum import one_sum
from likefill.solving import solved
from likefill.terms import flat

UNIVERSE = ["a", "z", "o", "?q", ("f", "a"), ("f", "z"), ("s", "a", "a"), ("s", "a", "o"), ("t", "a", "?q"), ("s", "a", ("t", "a", "a"))]

class Cover(unittest.TestCase):
    def assert_cover_each_other(self, signs, one, other, fillings, others):
        assert_cover_each_other(self, signs, wishes_of_two(signs, one, other), fillings, others)

    def test_one_filling_or_none(self):
        signs = signs_of_sums(("s", "z"), ("t", "o"), ("u", ""))
        for one, other, wanted in ONE_FILLING_OR_NONE:
            for left, right in ((one, other), (other, one), (as_lists(one), as_lists(other))):
                told = cover(signs, left, right)
                assert_make_alike(self, signs, one, other, told)
                self.assertEqual(bool(told), wanted is not None, (one, other, told))
                self.assert_cover_each_other(signs, one, other, told, [] if wanted is None else [wanted])

    def test_several_fillings(self):
        for signs in (signs_of_sums(("s", "z"), ("t", "o"), ("u", "")), signs_of_sums(("s", "z"), ("t", "o"), ("u", "n"))):
            for one, other in SEVERAL_FILLINGS:
                told = cover(signs, one, other)
                self.assertGreater(len(told), 1, (one, other))
                assert_make_alike(self, signs, one, other, told)
                assert_none_missing(self, signs, flat(signs, one), flat(signs, other), told, UNIVERSE)

    def test_what_falls_away(self):
        signs = signs_of_sums(("s", "z"), ("t", "o"))
        names = ["?x", "?y"]
        told = cover(signs, ("s", ("t", "?x", "?y"), "a"), "a")
        self.assert_cover_each_other(signs, ("g", "?x", "?y"), "a", told, [{"?x": "z", "?y": "o"}, {"?x": "o", "?y": "z"}])
        told = cover(signs, ("s", ("t", "?x", "?y"), "b"), ("s", "a", "b", "b"))
        self.assert_cover_each_other(signs, ("g", "?x", "?y"), "a", told, [{"?x": ("s", "a", "b"), "?y": "o"}, {"?x": "o", "?y": ("s", "a", "b")}])
        for filling in told:
            self.assertEqual(sorted(filling), names)

    def test_all_small_terms(self):
        signs = signs_of_sums(("s", "z"), ("t", "o"))
        terms = sorted({flat(signs, term) for term in small_terms(["?x", "?y", "a"], [], ["s", "t"], 3) if str(term).count("?x") < 3 > str(term).count("?y")}, key=str)
        universe = ["a", "z", "o", ("s", "a", "a"), ("t", "a", "?q"), ("s", "a", "o"), ("t", "a", "z")]
        for place, one in enumerate(terms):
            for other in terms[place % 7:place + 1:7]:
                told = cover(signs, one, other)
                assert_make_alike(self, signs, one, other, told)
                assert_none_missing(self, signs, one, other, told, universe)

    def test_fillings_that_are_known_to_fit(self):
        tried = 0
        for signs in signs_with_noughts():
            for seed in range(120):
                chance = random.Random(seed)
                one, other, filling = planted(chance, signs, ["?x", "?y", "?v", "?w"][:chance.randint(1, 4)])
                try:
                    told = cover(signs, one, other)
                except TooMuch:
                    continue
                tried += 1
                self.assertTrue(any(goes_through(signs, each, filling, wishes_of_two(signs, one, other)) for each in told), (signs.sums(), one, other, filling))
                assert_make_alike(self, signs, one, other, told[:20])
        self.assertGreater(tried, 400)

    def test_exchanged_and_set_otherwise(self):
        for signs in signs_with_noughts()[3:]:
            for seed in range(40):
                chance = random.Random(seed)
                one, other, filling = planted(chance, signs, ["?x", "?y", "?v"])
                try:
                    told = cover(signs, one, other)
                except TooMuch:
                    continue
                if len(told) < 20:
                    self.assert_cover_each_other(signs, one, other, told, cover(signs, other, one))
                    self.assert_cover_each_other(signs, one, other, told, cover(signs, set_otherwise(chance, signs, one), as_lists(set_otherwise(chance, signs, other))))

    def test_without_noughts_as_solved(self):
        signs = signs_of_sums(("s", ""), ("t", ""))
        for one, other in [(("s", "?x", "?y"), ("s", "?v", "?w")), (("s", "?x", "z"), "z"), (("s", "?x", ("f", "?y")), ("s", "?y", ("f", "?v"), "?v")), ("?x", ("s", "?x", "?y")),
                           (("t", ("s", "?x", "?y"), "z"), ("t", ("s", "a", "b"), "?v")), (("s", "?x", "?y"), ("t", "?x", "?y"))]:
            self.assert_cover_each_other(signs, one, other, cover(signs, one, other), solved(signs, one, other))

    def test_sides_as_their_table(self):
        for signs in signs_with_noughts():
            for one, other in [(("s", "?x", "?y"), ("s", "?v", "a")), (("s", "?x", "?x", "a"), ("s", "?y", "b", "b")), (("s", "?x", "?x"), ("s", "?y", "?v", "a")), (("s", "?x", "?x"), "a"),
                               (("s", "?x", "?y"), ("s", "a", "b", ("f", "a"))), (("s", "?x", "a"), ("s", "?x", "b")), (("s", "?x", "?y"), "z")]:
                self.assert_cover_each_other(signs, one, other, cover(signs, one, other), one_sum(signs, "s", one, other))

    def test_wishes_that_are_new_ones_by_their_looks(self):
        signs = signs_of_sums(("s", "z"), ("t", "o"))
        for one, other in [(("s", "?1", "?2"), ("s", "?3", "?4")), (("s", "?1", ("f", "?2")), ("s", "?3", ("f", "a"))), (("s", "?2", "?2"), ("s", "?1", "?3")), (("s", "?1", ("t", "?1", "?2")), ("s", "?3", "a"))]:
            told = cover(signs, one, other)
            assert_make_alike(self, signs, one, other, told)
            assert_none_missing(self, signs, one, other, told, ["a", "z", "o", ("s", "a", "?q"), ("f", "a")])

    def test_signs_without_sums(self):
        signs = signs_of_sums()
        self.assertEqual(cover(signs, ("g", "?x", "a"), ("g", ("f", "?y"), "?y")), [{"?x": ("f", "a"), "?y": "a"}])
        self.assertEqual(cover(signs, "a", ("f", "?y")), [])
        self.assertEqual(cover(signs, ("f", "?y"), ("f", "?y")), [{}])


class Refused(unittest.TestCase):
    def assert_refused(self, error, one, other):
        for signs in (sample_signs(), signs_of_sums(("s", "z"), ("t", "o")), signs_of_sums(("s", ""), ("t", ""))):
            self.assertRaises(error, cover, signs, one, other)
            self.assertRaises(error, cover, signs, other, one)

    def test_what_is_no_term(self):
        for wrong in odd_things() + ["nix", ("s", "a"), ("s", "a", ("f", "nix"))]:
            for other in ("a", wrong, ("s",) + ("a",) * 7):
                self.assert_refused(NoTerm, wrong, other)

    def test_what_is_too_much(self):
        for one, other in too_much():
            self.assert_refused(TooMuch, one, other)
            self.assert_refused(TooMuch, as_lists(one), as_lists(other))

    def test_what_is_not_too_much(self):
        for signs, (one, other) in itertools.product((sample_signs(), signs_of_sums(("s", ""), ("t", ""))), not_too_much()):
            for left, right in ((one, other), (other, one)):
                told = cover(signs, left, right)
                self.assertTrue(told, (one, other))
                assert_make_alike(self, signs, left, right, told)

    def test_too_much_is_of_the_flat_forms(self):
        signs = sample_signs()
        for one in [("s", "z") + ("a",) * 6, ("s", "a") + ("z",) * 9, ("g", ("s", "a", "a", "a", "a"), ("s", "a", "b", "a", "a", "z")), ("s", "?y", ("t", "?y", "o"), ("f", ("s", "?y", "z")))]:
            assert_make_alike(self, signs, one, "?x", cover(signs, one, "?x"))
            self.assertTrue(cover(signs, one, "?x"))


if __name__ == "__main__":
    unittest.main()
