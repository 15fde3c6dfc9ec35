"""Walks from one term to another one that is alike, over single steps."""

import itertools
import unittest

from common import as_lists, kinds, odd_things, sample_signs, small_terms
from likefill.errors import NoTerm
from likefill.steps import done, paired
from likefill.terms import alike, flat
from likefill.walks import walk

# rows of terms that are alike one another
ALIKE = [
    ["a"], ["?x"], [("f", "a")],
    ["a", ("s", "a", "z"), ("s", "z", "a"), ("s", "z", "z", "a", "z"), ("s", ("s", "z", "z"), ("s", "a", ("s", "z", "z"))), ("t", "o", ("s", "z", "a"))],
    ["z", ("s", "z", "z"), ("s", ("s", "z", "z"), ("s", "z", "z")), ("t", "z", "o"), ("s", ("t", "o", "z"), ("t", "z", "o"), "z")],
    [("s", "a", "b"), ("s", "b", "a"), ("s", "b", "z", "a"), ("s", ("t", ("s", "b", "a"), "o"), "z"), ("t", "o", ("s", "b", ("s", "z", "a")))],
    [("u", "a", "b", "?x", "a"), ("u", ("u", "a", "a"), ("u", "b", "?x")), ("u", ("u", ("u", "?x", "b"), "a"), "a"), ("u", "b", ("u", ("u", "a", "?x"), "a"))],
    [("s", "a", "a", "b"), ("s", ("s", "a", "b"), "a"), ("s", "a", ("t", ("s", "a", "b"), "o"))],
    [("h", ("s", "b", "a"), ("f", ("u", "b", "a")), "z"), ("h", ("s", "a", "b"), ("f", ("u", "a", "b")), ("s", "z", "z")),
     ("s", ("h", ("s", "a", "b", "z"), ("t", ("f", ("u", "b", "a")), "o"), ("t", "o", "z")), "z")],
    [("s", ("f", ("s", "b", "a")), ("f", ("s", "b", "b")), ("u", "b", "a")), ("s", ("s", ("u", "a", "b"), ("f", ("s", "b", "b"))), ("f", ("s", "a", "b")))],
    [("t", ("s", "b", "?y", "?x"), ("s", "b", "a", "z"), "z"), ("t", "z", ("t", ("s", ("s", "a", "z"), "b"), ("s", "?x", "?y", "b")))],
    [("u", "z", "o"), ("u", "o", "z"), ("s", ("u", "o", "z"), "z"), ("u", ("s", "o", "z"), ("t", "o", "z"))],
]


class Walks(unittest.TestCase):
    def assert_leads(self, one, other):
        signs = sample_signs()
        steps = walk(signs, one, other)
        self.assertIs(type(steps), list)
        at = paired(signs, one)
        for step in steps:
            self.assertEqual([type(each) for each in step], [str, tuple, str])
            self.assertIs(type(step), tuple)
            at = done(signs, at, step)
        self.assertEqual(kinds(at), kinds(paired(signs, other)), (one, other))

    def test_alike_terms(self):
        for row in ALIKE:
            for one, other in itertools.product(row, repeat=2):
                self.assert_leads(one, other)
                self.assert_leads(as_lists(one), as_lists(other))

    def test_every_order(self):
        for row in itertools.permutations(["?x", "a", "b", ("f", "a")]):
            self.assert_leads(("s",) + row, ("s", "b", ("f", "a"), "?x", "a"))
            self.assert_leads(("u", ("u",) + row[:2], ("u",) + row[2:]), ("u", "b", ("f", "a"), "?x", "a"))

    def test_a_term_and_itself(self):
        for term in small_terms(["?x", "a", "z"], ["f"], ["s", "u"], 3):
            self.assert_leads(term, term)

    def test_many_parts(self):
        parts = ["?x", "b", ("f", "b"), "a", "z"] * 8
        self.assert_leads(["s"] + parts, ["s"] + parts[::-1])
        self.assert_leads(["s", ["s"] + parts[:20], ["s"] + parts[20:]], flat(sample_signs(), ["s"] + parts))

    def test_deep_terms(self):
        one, other = "a", "a"
        for depth in range(11):
            one, other = ("s", one, "z", "b"), ("s", "b", ("f", "z"), other) if depth == 5 else ("s", "b", other)
            if depth == 5:
                one = ("s", ("f", ("s", "z", "z")), one)
        self.assert_leads(one, other)
        self.assert_leads(other, one)

    def test_just_where_the_two_are_alike(self):
        signs = sample_signs()
        terms = small_terms(["?x", "a", "z"], ["f"], ["s", "u"], 2) + small_terms(["a", "z"], [], ["s"], 4)[::5]
        for one, other in itertools.product(terms, repeat=2):
            if alike(signs, one, other):
                self.assert_leads(one, other)
            else:
                self.assertIsNone(walk(signs, one, other))

    def test_none_of_terms_that_are_not_alike(self):
        for one, other in [("a", "b"), ("?x", "?y"), (("s", "a", "a"), "a"), (("u", "a", "z"), "a"), (("g", "a", "b"), ("g", "b", "a")),
                           (("s", "a", "b"), ("t", "a", "b")), (("s", "a", "a", "b"), ("s", "a", "b", "b")), (("s", "o", "a"), "a")]:
            self.assertIsNone(walk(sample_signs(), one, other))
            self.assertIsNone(walk(sample_signs(), other, one))

    def test_what_is_no_term(self):
        for wrong in odd_things() + ["c", ("s", "a"), ("f", ("s", "a", "nix"))]:
            self.assertRaises(NoTerm, walk, sample_signs(), wrong, "a")
            self.assertRaises(NoTerm, walk, sample_signs(), "a", wrong)
            self.assertRaises(NoTerm, walk, sample_signs(), wrong, wrong)


if __name__ == "__main__":
    unittest.main()
