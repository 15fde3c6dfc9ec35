"""Fillings that cover two terms, where no sum has a nought."""

import random
import unittest

from common import (as_lists, assert_make_alike, assert_none_missing, bare_signs, goes_through, lifted, not_too_much, odd_things, sample_signs, small_terms,
                    some_term, too_much, wishes_of_two)
from likefill.errors import NoSigns, NoTerm, TooMuch
from likefill.onesum import one_sum
from likefill.signs import Signs
from likefill.solving import solved
from likefill.terms import flat, put_in

UNIVERSE = ["a", "b", "?v", ("f", "a"), ("s", "a", "b"), ("s", "a", "a"), ("t", "a", "b"), ("f", ("s", "a", "b")), ("s", "a", ("f", "a"))]

# the two terms, and one filling or none that covers them
PLAIN = [
    # fixed signs alone
    ("a", "a", {}), ("a", "b", None), ("?x", "?x", {}), ("?x", "a", {"?x": "a"}), (("f", "?x"), ("f", ("g", "a", "b")), {"?x": ("g", "a", "b")}),
    (("g", "?x", "?y"), ("g", ("f", "?y"), "a"), {"?x": ("f", "a"), "?y": "a"}), (("g", "?x", "?x"), ("g", "a", "b"), None), (("f", "a"), ("g", "a", "a"), None),
    (("g", "?x", ("f", "?x")), ("g", "a", "?y"), {"?x": "a", "?y": ("f", "a")}), (("f", "a"), "a", None), (("f", ("f", "?x")), ("f", "a"), None),
    # a wish within itself
    ("?x", ("f", "?x"), None), ("?x", ("s", "?x", "a"), None), ("?x", ("s", "a", ("f", "?x")), None), (("g", "?x", "?y"), ("g", ("f", "?y"), ("f", "?x")), None),
    (("s", "?x", "?y"), ("s", ("f", "?y"), ("f", "?x")), None), (("s", "?x", "a"), ("s", "?x", "b"), None), (("s", "?x", "?y"), ("s", "?x", "?y", "a"), None),
    (("g", "?x", "?x"), ("g", ("s", "?y", "a"), ("s", "?y", "b")), None), (("g", "?x", "?y"), ("g", ("s", "a", "?y"), ("t", "b", "?x")), None),
    (("g", ("s", "?x", "?y"), ("t", "?x", "?z")), ("g", ("s", "?z", "a"), ("t", "b", "?y")), None), (("s", ("f", "?x"), ("f", "?y"), "?z"), ("s", ("f", "?y"), "?x", "?x"), None),
    (("t", "?x", ("s", "?x", "?y")), ("t", "?y", ("s", "a", "b")), None), (("s", "?x", ("f", "?y")), ("s", "?y", ("f", "?x"), "?z"), None),
    # sums of one sign, of several, within one another
    (("s", "?x", "a"), ("s", "b", "a"), {"?x": "b"}), (("s", "?x", "a"), ("s", "b", "a", "b"), {"?x": ("s", "b", "b")}), (("s", "?x", "a"), ("t", "?x", "a"), None),
    (("t", ("s", "?x", "a"), "b"), ("t", "b", ("s", "a", ("f", "b"))), {"?x": ("f", "b")}), (("f", ("s", "?x", "?x")), ("f", ("s", "a", "b", "a", "b")), {"?x": ("s", "a", "b")}),
    (("s", "?x", ("t", "?x", "a")), ("s", ("t", "b", "a"), "b"), {"?x": "b"}), (("s", "?x", "?x"), ("s", "a", "b"), None), (("s", "?x", "?x"), "a", None),
    (("s", ("f", "?x"), ("f", "?x")), ("s", ("f", "a"), ("f", "?y")), {"?x": "a", "?y": "a"}), (("s", "?x", ("f", "?x")), ("s", "?y", ("f", "?y")), {"?x": "?y"}),
    (("g", ("s", "?x", "?y"), "?y"), ("g", ("s", "a", "b"), "a"), {"?x": "b", "?y": "a"}), (("s", "?x", ("s", "?y", "?x")), ("s", "a", ("s", "a", "b")), {"?x": "a", "?y": "b"}),
]

# the two terms, each with several fillings
SEVERAL = [
    (("s", "?x", "?y"), ("s", "a", "b")), (("s", "?x", "?y"), ("s", "?z", "a")), (("s", "?x", ("f", "?y")), ("s", ("f", "a"), ("f", "b"))), (("s", "?x", "?y"), ("s", ("f", "?z"), "a")),
    (("s", ("f", "?x"), ("f", "?y")), ("s", ("f", "a"), ("f", "b"))), (("s", ("t", "?x", "?y"), "?z"), ("s", ("t", "a", "b"), "a")), (("s", "?x", "?x", "?y"), ("s", "a", "b", "?z")),
    (("s", ("f", ("s", "?x", "a")), "?x"), ("s", ("f", ("s", "?y", "b")), "?z")),
    (("t", ("s", "?x", "?y"), ("s", "?y", "a")), ("t", ("s", "a", "b"), "?z")),
    (("s", "?x", "?x", ("f", "?y")), ("s", ("f", "a"), "?y", "?z")),
    (("g", ("s", "?x", "?y"), ("t", "?x", "?z")), ("g", ("s", "?z", "a"), ("t", "a", "?y"))), (("t", "?x", ("s", "?x", "?y")), ("t", "?z", ("s", "a", "b"))),
    (("s", ("f", "?x"), ("f", "?y"), "?z"), ("s", ("f", "a"), "?w", "?w")), (("s", "?x", ("f", "?y")), ("s", "?y", ("f", "?z"), "?z")),
    (("g", ("s", "?x", "?x", ("f", "?z")), ("s", "?y", "?x")), ("g", ("s", "?y", "a", "?z"), ("s", "?z", "?y"))),
]


class Solved(unittest.TestCase):
    def test_one_filling_or_none(self):
        signs = bare_signs()
        for one, other, wanted in PLAIN:
            for left, right in ((one, other), (other, one), (as_lists(one), as_lists(other))):
                told = solved(signs, left, right)
                assert_make_alike(self, signs, one, other, told)
                self.assertEqual(bool(told), wanted is not None, (one, other, told))
                for filling in told[:1] if wanted is not None else []:
                    names = wishes_of_two(signs, one, other)
                    self.assertTrue(any(goes_through(signs, each, wanted, names) for each in told), (one, other, told))
                    self.assertTrue(all(goes_through(signs, wanted, each, names) for each in told), (one, other, told))

    def test_several_fillings(self):
        signs = bare_signs()
        for one, other in SEVERAL:
            for left, right in ((one, other), (other, one)):
                told = solved(signs, left, right)
                self.assertGreater(len(told), 1, (one, other))
                assert_make_alike(self, signs, left, right, told)
                assert_none_missing(self, signs, flat(signs, left), flat(signs, right), told, UNIVERSE)

    def test_all_small_terms(self):
        signs = bare_signs()
        terms = sorted({flat(signs, term) for term in small_terms(["?x", "?y", "a"], ["f"], ["s"], 3) if str(term).count("?x") < 3 > str(term).count("?y")}, key=str)
        universe = UNIVERSE[:2] + [("f", "a"), ("s", "a", "a"), ("s", "a", "?v"), ("f", ("s", "a", "a")), ("s", "a", ("f", "a"))]
        for place, one in enumerate(terms):
            for other in terms[place % 11:place + 1:11]:
                told = solved(signs, one, other)
                assert_make_alike(self, signs, one, other, told)
                assert_none_missing(self, signs, one, other, told, universe)

    def test_sides_as_their_table(self):
        signs = bare_signs()
        for one, other in [(("s", "?x", "?y"), ("s", "?z", "?w")), (("s", "?x", "?x", "a"), ("s", "?y", "b", "b")), (("s", "?x", "?x"), ("s", "?y", "?z", "a")),
                           (("s", "?x", "?y"), ("s", "a", "b", ("f", "a"))), (("s", "?x", "?x"), "a"), (("s", "?x", "a"), ("s", "?x", "b"))]:
            names, told, table = wishes_of_two(signs, one, other), solved(signs, one, other), one_sum(signs, "s", one, other)
            for filling in table:
                self.assertTrue(any(goes_through(signs, each, filling, names) for each in told))
            for filling in told:
                self.assertTrue(any(goes_through(signs, each, filling, names) for each in table))

    def test_fillings_that_are_known_to_fit(self):
        for seed in range(250):
            self.try_planted(random.Random(seed))

    def try_planted(self, chance):
        """Fill a term, and make another one of what comes out by setting the wishes in again elsewhere."""
        signs, names = bare_signs(), ["?x", "?y", "?z", "?w"][:chance.randint(1, 4)]
        filling = {wish: flat(signs, some_term(chance, chance.choice([1, 1, 2, 3]), "abc", "sst")) for wish in names}
        one = flat(signs, some_term(chance, chance.randint(2, 8), names * 3 + ["a", "b", "c"], "sst"))
        other = lifted(chance, signs, filling, put_in(signs, filling, one))
        try:
            told = solved(signs, one, other)
        except TooMuch:
            return
        self.assertTrue(any(goes_through(signs, each, filling, wishes_of_two(signs, one, other)) for each in told), (one, other, filling))
        assert_make_alike(self, signs, one, other, told[:20])

    def test_wishes_that_are_new_ones_by_their_looks(self):
        signs = bare_signs()
        for one, other in [(("s", "?1", "?2"), ("s", "?3", "?x")), (("s", "?1", ("f", "?2")), ("s", "?3", ("f", "a"))), (("s", "?2", "?2"), ("s", "?1", "?3"))]:
            told = solved(signs, one, other)
            assert_make_alike(self, signs, one, other, told)
            assert_none_missing(self, signs, one, other, told, UNIVERSE[:6])

    def test_signs_without_sums(self):
        signs = Signs([("a", 0), ("f", 1), ("g", 2)], [])
        self.assertEqual(solved(signs, ("g", "?x", "a"), ("g", ("f", "?y"), "?y")), [{"?x": ("f", "a"), "?y": "a"}])
        self.assertEqual(solved(signs, "a", ("f", "?y")), [])

    def test_names_that_begin_alike(self):
        signs = Signs([("fa", 0), ("sa", 0), ("f", 1), ("ff", 1), ("gab", 0), ("g", 2)], [("s", ""), ("ss", "")])
        for one, other in [(("f", "?x"), "fa"), (("s", "?x", "?y"), "sa"), (("g", "?x", "?y"), "gab"), (("f", "?x"), ("ff", "?y")), (("s", "?x", "?y"), ("ss", "?x", "?y")),
                           (("f", ("f", "?x")), ("f", "fa")), (("s", ("f", "?x"), "sa"), ("s", "fa", "?y"))]:
            self.assertEqual(solved(signs, one, other), [])
            self.assertEqual(solved(signs, other, one), [])
        self.assertEqual(solved(signs, ("s", ("f", "?x"), "?y"), ("s", "fa", ("f", "sa"))), [{"?x": "sa", "?y": "fa"}])

    def test_many_parts_that_come_again(self):
        signs = bare_signs()
        for one, other, many in [(("s", "?x", "?y"), ("s",) + ("a",) * 6, 5), (("s", ("f", "?x"), ("f", "?x")), ("s", ("f", "a"), ("f", "a")), 1),
                                 (("s", "?x", "?x"), ("s",) + ("a",) * 6, 1), (("s", "?x", "?x"), ("s",) + ("a",) * 5, 0)]:
            told = solved(signs, one, other)
            self.assertEqual(len(told), many)
            assert_make_alike(self, signs, one, other, told)


class Refused(unittest.TestCase):
    def assert_refused(self, error, one, other, signs):
        self.assertRaises(error, solved, signs, one, other)
        self.assertRaises(error, solved, signs, other, one)

    def test_what_is_no_term(self):
        for signs in (bare_signs(), sample_signs()):
            for wrong in odd_things() + ["nix", ("s", "a"), ("s", "a", ("f", "nix"))]:
                for other in ("a", wrong, ("s",) + ("a",) * 7):
                    self.assert_refused(NoTerm, wrong, other, signs)

    def test_what_is_too_much(self):
        for one, other in too_much():
            self.assert_refused(TooMuch, one, other, bare_signs())
            self.assert_refused(TooMuch, as_lists(one), as_lists(other), bare_signs())

    def test_two_that_are_alike_are_too_much_as_well(self):
        for term in [("s",) + ("a",) * 7, ("s", "?x", "?x", "?x"), ("g", ("s", "?a", "?b", "?c"), ("s", "?d", "?e"))]:
            self.assert_refused(TooMuch, term, term, bare_signs())

    def test_what_is_not_too_much(self):
        for one, other in not_too_much():
            for left, right in ((one, other), (other, one)):
                told = solved(bare_signs(), left, right)
                self.assertTrue(told, (one, other))
                assert_make_alike(self, bare_signs(), left, right, told)

    def test_a_wish_thrice_in_a_fixed_sign_is_not_too_much(self):
        signs = Signs([("a", 0), ("nought", 0), ("h", 3)], [("s", "")])
        self.assertEqual(solved(signs, ("h", "?x", "?x", "?x"), ("h", "?y", "a", "?y")), [{"?x": "a", "?y": "a"}])
        self.assertEqual(solved(signs, ("h", "?x", ("s", "?x", "?x"), "?x"), ("h", "a", "?y", "a")), [{"?x": "a", "?y": ("s", "a", "a")}])

    def test_long_names_are_not_too_much(self):
        signs = Signs([("abcdef", 0), ("f", 1)], [("s", "")])
        self.assertEqual(solved(signs, ("f", "?abcdefgh"), ("f", "abcdef")), [{"?abcdefgh": "abcdef"}])
        self.assertEqual(solved(signs, "?aaaaaaaa", "abcdef"), [{"?aaaaaaaa": "abcdef"}])

    def test_a_nought_behind_all_other_refusals(self):
        for signs in (Signs([("a", 0), ("b", 0), ("z", 0), ("f", 1), ("g", 2)], [("s", "z"), ("t", "")]),
                      Signs([("a", 0), ("b", 0), ("z", 0), ("f", 1), ("g", 2)], [("s", ""), ("t", "z")])):
            for one, other in not_too_much() + [("a", "a"), ("a", "b"), ("?x", ("f", "a"))]:
                self.assert_refused(NoSigns, one, other, signs)
            for one, other in too_much():
                self.assert_refused(TooMuch, one, other, signs)
            self.assert_refused(NoTerm, "nix", ("s",) + ("a",) * 7, signs)

    def test_too_much_is_of_the_flat_forms(self):
        signs = Signs([("a", 0), ("b", 0), ("z", 0), ("f", 1), ("g", 2)], [("s", "z"), ("t", "")])
        for one in [("s", "z") + ("a",) * 6, ("s", "a") + ("z",) * 9, ("g", ("s", "a", "a", "a", "a"), ("s", "a", "b", "a", "a", "z"))]:
            self.assert_refused(NoSigns, one, "?x", signs)


if __name__ == "__main__":
    unittest.main()
