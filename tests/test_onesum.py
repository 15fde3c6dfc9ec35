"""Tables and rest papers of two sides under one sum."""

import itertools
import unittest

from common import (as_lists, assert_make_alike, assert_none_missing, assert_none_too_many, goes_through, odd_things, parts_in, sample_signs,
                    wishes_of_two)
from likefill.errors import NoSide, NoTerm, TooMuch
from likefill.onesum import one_sum, rest_paper
from likefill.terms import alike, flat, is_wish

UNIVERSE = {
    "s": ["z", "a", "b", "?v", ("f", "a"), ("s", "a", "a"), ("s", "a", "b"), ("s", "?v", "b"), ("s", "a", "a", "b"), ("t", "a", "?v")],
    "u": ["a", "b", "?v", "z", ("u", "a", "a"), ("u", "a", "b"), ("u", "?v", "?v"), ("u", "a", "b", "b"), ("u", "a", "a", "b"), ("s", "a", "?v")],
}

# sum, the two sides, how many fillings
COUNTED = [
    # alike already
    ("s", "?x", "?x", 1), ("s", ("s", "?x", "a"), ("s", "a", "?x"), 1), ("s", "z", "z", 1), ("u", "a", "a", 1), ("s", ("s", "?x", "z"), "?x", 1),
    # two wishes
    ("s", "?x", "?y", 1), ("u", "?x", "?y", 1),
    # wishes and blocks
    ("s", "?x", ("s", "a", ("f", "b")), 1), ("s", ("s", "?x", "?y"), ("s", "a", "b"), 4), ("u", ("u", "?x", "?y"), ("u", "a", "b"), 2),
    ("s", ("s", "?x", "?y"), "z", 1), ("s", ("s", "?x", "?y"), ("s", "a", "a"), 3), ("u", ("u", "?x", "?y"), ("u", "a", "a"), 1),
    ("s", ("s", "?x", "a"), ("s", "?y", "b"), 1), ("u", ("u", "?x", "a"), ("u", "?y", "b"), 2), ("u", ("u", "?x", "a"), ("u", "?y", "a"), 1),
    # wishes on both sides and twice
    ("s", ("s", "?x", "?y"), ("s", "?z", "?w"), 1), ("u", ("u", "?x", "?y"), ("u", "?z", "?w"), 7), ("u", ("u", "?x", "?x"), ("u", "?y", "?z"), 5),
    ("s", ("s", "?x", "?x"), ("s", "?y", "a"), 1), ("u", ("u", "?x", "?x"), ("u", "?y", "a"), 2), ("u", ("u", "?x", "?x", "?y"), ("u", "?y", "?y", "?x"), 1),
    ("s", ("s", "?x", "?y"), ("s", "?x", "a"), 1), ("s", ("s", "?x", "?x"), ("s", "?y", "?y", "a", "a"), 1), ("s", ("s", "?x", "?x"), ("s", "a", "b", "?y", "?z"), 4),
    ("s", ("s", "?x", "?y", "?z", "?w"), ("s", "a", "b", ("f", "a"), ("f", "b"), "o", ("t", "a", "b")), 4 ** 6),
    ("u", ("u", "?x", "?y", "?z", "?w"), ("u", "a", "b", "z", "o", ("f", "a"), ("f", "b")), 1560),
    # another sum, and another sum's nought, are blocks
    ("s", ("s", "?x", ("t", "a", "b")), ("s", ("u", "a", "b"), "o", "?y"), 1), ("t", ("t", "?x", "z"), "z", 1), ("u", ("u", "?x", "z"), ("u", "z", "o"), 1),
    # new wishes by their looks
    ("s", ("s", "?1", "?2"), ("s", "?3", "?x"), 1), ("u", ("u", "?1", "?3"), ("u", "a", "?2"), 4),
    # nothing fits
    ("s", "a", "b", 0), ("u", "a", "b", 0), ("s", ("s", "?x", "a"), "b", 0), ("s", ("s", "?x", "a"), "z", 0), ("u", ("u", "?x", "a"), "a", 0),
    ("u", ("u", "?x", "?y"), "a", 0), ("u", "?x", ("u", "?x", "?y"), 0), ("s", ("s", "?x", "?x"), "a", 0), ("s", ("s", "?x", "?x", "?y", "?y"), ("s", "a", "a", "b"), 0),
    ("s", "?x", ("s", "?x", "a"), 0), ("u", ("u", "?x", "?y"), ("u", "?x", "?y", "a"), 0),
]


def sides(name, most):
    """All sides with ?x, ?y, a, b as parts, up to so many."""
    rows = [row for many in range(most + 1) for row in itertools.combinations_with_replacement(["?x", "?y", "a", "b"], many)]
    terms = [(name,) + row if len(row) > 1 else row[0] for row in rows if row]
    return (["z"] if name == "s" else []) + [term for term in terms if all(term.count(wish) < 3 for wish in ("?x", "?y"))]


class Tables(unittest.TestCase):
    def test_each(self):
        for name, one, other, many in COUNTED:
            for left, right in ((one, other), (other, one), (as_lists(one), as_lists(other))):
                told = one_sum(sample_signs(), name, left, right)
                self.assertEqual(len(told), many, (left, right))
            assert_make_alike(self, sample_signs(), one, other, told)
            if many < 20:
                assert_none_too_many(self, sample_signs(), one, other, told)

    def test_told_fillings(self):
        signs = sample_signs()
        self.assertEqual(one_sum(signs, "s", "?x", ("s", "b", "a")), [{"?x": ("s", "a", "b")}])
        self.assertEqual(one_sum(signs, "s", ("s", "?x", "?y"), "z"), [{"?x": "z", "?y": "z"}])
        self.assertEqual(one_sum(signs, "s", ("s", "?x", "a"), ("s", "?x", "a", "z")), [{}])
        self.assertEqual(one_sum(signs, "s", ("s", "?x", "?y"), ("s", "?x", "a")), [{"?y": "a"}])
        self.assertCountEqual(one_sum(signs, "u", ("u", "?x", "?y"), ("u", "a", "b")), [{"?x": "a", "?y": "b"}, {"?x": "b", "?y": "a"}])

    def assert_table(self, signs, name, one, other):
        told = one_sum(signs, name, one, other)
        assert_make_alike(self, signs, one, other, told)
        assert_none_missing(self, signs, one, other, told, UNIVERSE[name])
        assert_none_too_many(self, signs, one, other, told)

    def test_none_missing_and_none_too_many(self):
        signs = sample_signs()
        for name in ("s", "u"):
            terms = sides(name, 3)
            for place, one in enumerate(terms):
                for other in terms[place % 3:place + 1:3]:
                    self.assert_table(signs, name, one, other)

    def test_larger_sides(self):
        signs = sample_signs()
        for name, one, other in [
            ("u", ("u", "?x", "?x", "?y", "a"), ("u", "?z", "b", "b")), ("u", ("u", "?x", "?y", "?z"), ("u", "a", "a", "b", "?y")),
            ("s", ("s", "?x", "?x", "?y", "a"), ("s", "?z", "b", "b")), ("s", ("s", "?x", "?x", "?y", "?y"), ("s", "?z", "a", "a", "b")),
            ("u", ("u", "?x", "?x", "?y", "?y"), ("u", "?z", "?z", "a", "a")), ("s", ("s", "?x", "?x", "?y"), ("s", "?z", "?z", "a", "b", "b")),
        ]:
            self.assert_table(signs, name, one, other)

    def test_the_more_special_is_not_told(self):
        signs = sample_signs()
        told = one_sum(signs, "s", ("s", "?x", "?y"), ("s", "?z", "?w"))
        names = ["?w", "?x", "?y", "?z"]
        self.assertTrue(goes_through(signs, told[0], {"?x": "a", "?y": "b", "?z": ("s", "a", "b"), "?w": "z"}, names))
        self.assertTrue(goes_through(signs, told[0], {wish: "?x" for wish in names}, names))


def sizes(signs, name, one, other):
    """How often each part stands on the one side less how often on the other."""
    left, right = [parts_in(signs, name, flat(signs, term)) for term in (one, other)]
    return {part: left.count(part) - right.count(part) for part in left + right}


def is_paper(signs, name, one, other, paper):
    block, number = paper
    def is_multiple(size):
        return size == 0 if number == 0 else size % number == 0
    counted = sizes(signs, name, one, other)
    return not is_wish(block) and not is_multiple(counted.get(block, 0)) and all(is_multiple(counted[wish]) for wish in counted if is_wish(wish))


class RestPapers(unittest.TestCase):
    def test_each(self):
        for name, one, other, told in [
            ("s", ("s", "?x", "?x"), "a", ("a", 2)), ("s", ("s", "?x", "?x"), ("s", "?y", "?y", "a", "b", "b"), ("a", 2)), ("u", ("u", "?x", "?x"), ("u", "a", "a", "a"), ("a", 2)),
            ("s", "?x", ("s", "?x", "a"), ("a", 0)), ("u", ("u", "?x", "?y"), ("u", "?y", "?x", "b", "b"), ("b", 0)), ("s", "z", "a", ("a", 0)), ("s", ("s", "a", "a"), "a", ("a", 0)),
            ("s", ("s", "?x", "?y", "?y"), ("s", "?x", ("f", "a"), "b", "b"), (("f", "a"), 2)), ("s", ("s", ("t", "b", "a"), "?x"), ("s", "?x", "z"), (("t", "a", "b"), 0)),
        ]:
            for left, right in ((one, other), (other, one), (as_lists(one), as_lists(other))):
                paper = rest_paper(sample_signs(), name, left, right)
                self.assertIs(type(paper), tuple)
                # Where there is no wish, any number does.
                self.assertEqual(paper[0], told[0])
                self.assertTrue(is_paper(sample_signs(), name, one, other, paper) and paper[1] >= 0 and paper[1] != 1, paper)
                if wishes_of_two(sample_signs(), one, other):
                    self.assertEqual(paper, told)

    def test_none(self):
        for name, one, other in [("s", "?x", "a"), ("s", "?x", "?y"), ("s", "?x", "?x"), ("s", "a", "a"), ("s", "z", "z"), ("s", ("s", "?x", "?x"), ("s", "a", "a")),
                                 ("s", ("s", "?x", "?x"), ("s", "?y", "a")), ("u", ("u", "?x", "a"), "b"), ("s", ("s", "?x", "a"), "z"), ("u", ("u", "?x", "?y"), "a")]:
            self.assertIsNone(rest_paper(sample_signs(), name, one, other), (one, other))

    def test_told_just_where_there_is_one_and_then_nothing_fits(self):
        signs = sample_signs()
        for name in ("s", "u"):
            terms = sides(name, 4)
            for one, other in itertools.product(terms[::2], terms[::3]):
                paper = rest_paper(signs, name, one, other)
                there = [(block, number) for block in ("a", "b") for number in (0, 2, 3, 4, 5, 6) if is_paper(signs, name, one, other, (block, number))]
                self.assertEqual(paper is None, not there, (one, other))
                if paper is not None:
                    self.assertTrue(is_paper(signs, name, one, other, paper))
                    self.assertEqual(one_sum(signs, name, one, other), [])


class Refused(unittest.TestCase):
    def assert_refused(self, error, one, other, name="s"):
        for call in (one_sum, rest_paper):
            self.assertRaises(error, call, sample_signs(), name, one, other)
            self.assertRaises(error, call, sample_signs(), name, other, one)

    def test_what_is_no_term(self):
        for wrong in odd_things() + ["c", ("s", "a"), ("s", "a", ("f", "nix"))]:
            for other in ("a", wrong, ("f", "?x"), ("s",) + ("a",) * 7):
                self.assert_refused(NoTerm, wrong, other)

    def test_what_is_no_side(self):
        for name, wrong in [("s", ("f", "?x")), ("s", ("s", "a", ("f", "?x"))), ("s", ("t", "?x", "a")), ("u", ("s", "?x", "a")), ("s", ("s", "?x", ("g", "a", ("f", "?y"))))]:
            for other in ("a", wrong, ("s",) + ("a",) * 7 if name == "s" else ("u",) + ("a",) * 7):
                self.assert_refused(NoSide, wrong, other, name)

    def test_what_is_too_much(self):
        for one, other in [
            (("s", "?a", "?b", "?c", "?d", "?e"), "a"), (("s", "?a", "?b", "?c"), ("s", "?d", "?e")), (("s",) + ("a",) * 7, "a"), (("s", "?x") + ("a",) * 6, "?y"),
            (("s", "?x", "?x", "?x"), "a"), (("s", "?x", ("s", "?x", "?x")), "a"), (("t",) + ("a",) * 7, "?x"), (("f", ("u",) + ("a",) * 7), "?x"),
            (("s", ("h", "a", "a", "a"), ("h", "a", "a", "a"), ("h", "a", "a", "b")), "?x"), (("g", ("h", "a", "a", "a"), ("g", ("h", "a", "a", "a"), ("h", "a", "b", "a"))), "?x"),
        ]:
            self.assert_refused(TooMuch, one, other)
            self.assert_refused(TooMuch, as_lists(one), as_lists(other))

    def test_what_is_not_too_much(self):
        signs = sample_signs()
        for one, other in [
            (("s", "?a", "?b", "?c", "?d"), ("s", "?a", "?b")), (("s", "?a", "?b"), ("s", "?c", "?d", "?a")), (("s",) + ("a",) * 6, "?x"), (("s", "?x", "?x"), ("s", "?y", "?y")),
            (("s", ("h", "a", "a", "a"), ("h", "a", "a", "a"), "a", "b"), "?x"),
            # of the flat forms
            (("s", "z") + ("a",) * 6, "?x"), (("s", "?x", ("s", "?x", "z", "z", "z"), "z", "z", "z", "z"), "a"), (("s", ("t", "o", "o"), "z", "z", "z", "z", "z", "z", "z", "z"), "?x"),
        ]:
            for call in (one_sum, rest_paper):
                call(signs, "s", one, other)
                call(signs, "s", other, one)

    def test_two_that_are_alike_are_too_much_as_well(self):
        one = ("s",) + ("a",) * 7
        self.assertIs(alike(sample_signs(), one, one), True)
        self.assert_refused(TooMuch, one, one)


if __name__ == "__main__":
    unittest.main()
