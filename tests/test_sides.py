"""Parts under a sum, terms made of parts, and sides."""

import unittest

from common import as_lists, kinds, odd_things, sample_signs, small_terms
from likefill.errors import NoSide, NoTerm
from likefill.sides import is_side, parts_under, summed
from likefill.terms import flat

PARTS = [
    # the sum itself, flat
    ("s", ("s", "b", "a"), ["a", "b"]), ("s", ("s", "b", ("s", "?x", "z", "a")), ["?x", "a", "b"]), ("u", ("u", "a", "a", "?x"), ["?x", "a", "a"]),
    # its nought, plain and only once flat
    ("s", "z", []), ("s", ("s", "z", "z"), []), ("t", "o", []), ("s", ("t", "o", "z"), []),
    # another sum's nought, another sum, a wish, anything else: it alone
    ("s", "o", ["o"]), ("t", "z", ["z"]), ("u", "z", ["z"]), ("s", ("t", "b", "a"), [("t", "a", "b")]), ("s", "?x", ["?x"]), ("u", "a", ["a"]),
    ("s", ("f", ("s", "b", "a")), [("f", ("s", "a", "b"))]), ("s", ("g", "?x", "z"), [("g", "?x", "z")]),
    # one part left
    ("s", ("s", "z", "?x"), ["?x"]), ("s", ("s", "z", ("t", "a", "b")), [("t", "a", "b")]), ("s", ("t", ("s", "b", "a"), "o"), ["a", "b"]),
    ("s", ("s", ("u", "b", "a"), "?x"), ["?x", ("u", "a", "b")]),
]

SUMMED = [
    ("s", [], "z"), ("t", [], "o"), ("s", ["a"], "a"), ("s", [("s", "b", "a")], ("s", "a", "b")), ("u", [("s", "b", "z")], "b"), ("s", ["z"], "z"),
    ("s", ["b", "a"], ("s", "a", "b")), ("s", ["b", ("s", "a", "?x"), "z"], ("s", "?x", "a", "b")), ("u", [("u", "b", "a"), ("u", "?x", "z")], ("u", "?x", "a", "b", "z")),
    ("s", ["z", "z"], "z"), ("s", ["z", ("s", "z", "b")], "b"), ("s", [("t", "b", "a"), "a"], ("s", "a", ("t", "a", "b"))), ("t", ["z", "o"], "z"),
    ("s", [("t", ("s", "b", "a"), "o"), "a"], ("s", "a", "a", "b")),
]

SIDES = [
    ("s", "?x", True), ("s", "a", True), ("s", "z", True), ("u", "z", True), ("s", ("f", "a"), True), ("s", ("t", "a", ("f", "b")), True),
    ("s", ("s", "?x", "?x", "a", ("f", "a")), True), ("s", ("s", "?x", ("s", "?y", ("t", "a", "b"))), True), ("s", ("s", ("s", "z", "?x"), "z"), True),
    ("s", ("t", "o", ("s", "?x", "a")), True), ("s", ("t", "o", "?x"), True),
    ("s", ("f", "?x"), False), ("s", ("t", "a", "?x"), False), ("t", ("s", "a", "?x"), False), ("u", ("s", "?x", "?y"), False),
    ("s", ("s", "?x", ("f", "?x")), False), ("s", ("s", "a", ("g", "a", ("f", ("s", "a", "?y")))), False), ("s", ("s", ("t", "?x", "?y"), "a"), False),
]


class Parts(unittest.TestCase):
    def test_each(self):
        for name, term, told in PARTS:
            self.assertEqual(kinds(parts_under(sample_signs(), name, term)), kinds(told), (name, term))
            self.assertEqual(kinds(parts_under(sample_signs(), name, as_lists(term))), kinds(told), (name, term))

    def test_what_is_no_term(self):
        for wrong in odd_things() + ["c", ("s", "a"), ("s", "a", ("f", "nix"))]:
            self.assertRaises(NoTerm, parts_under, sample_signs(), "s", wrong)


class Summed(unittest.TestCase):
    def test_each(self):
        for name, parts, told in SUMMED:
            self.assertEqual(kinds(summed(sample_signs(), name, parts)), kinds(told), (name, parts))
            self.assertEqual(kinds(summed(sample_signs(), name, tuple(as_lists(part) for part in parts))), kinds(told), (name, parts))

    def test_none_without_a_nought(self):
        self.assertRaises(NoSide, summed, sample_signs(), "u", [])
        self.assertRaises(NoSide, summed, sample_signs(), "u", ())

    def test_of_the_parts_the_term(self):
        signs = sample_signs()
        for term in small_terms(["?x", "a", "z"], ["f"], ["s", "u"], 3):
            for name in ("s", "t", "u"):
                self.assertEqual(summed(signs, name, parts_under(signs, name, term)), flat(signs, term))

    def test_what_is_no_term(self):
        for wrong in odd_things() + ["c", ("s", "a"), ("s", "a", ("f", "nix"))]:
            for parts in ([wrong], ["a", wrong], [wrong, "a", "b"]):
                self.assertRaises(NoTerm, summed, sample_signs(), "s", parts)


class Sides(unittest.TestCase):
    def test_each(self):
        for name, term, told in SIDES:
            self.assertIs(is_side(sample_signs(), name, term), told, (name, term))
            self.assertIs(is_side(sample_signs(), name, as_lists(term)), told, (name, term))

    def test_what_is_no_term(self):
        for wrong in odd_things() + ["c", ("s", "a"), ("s", "a", ("f", "nix"))]:
            self.assertRaises(NoTerm, is_side, sample_signs(), "s", wrong)


if __name__ == "__main__":
    unittest.main()
