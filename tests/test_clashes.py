"""Clashes: the first one that is met, where, and of what."""

import itertools
import random
import unittest

from common import as_lists, kinds, not_too_much, odd_things, sample_signs, set_otherwise, signs_of_sums, small_terms, some_term, too_much
from likefill.clashes import clash
from likefill.errors import NoTerm, TooMuch
from likefill.tables import table
from likefill.terms import flat, is_wish

# of the sums s with nought z, t with nought o, u with none
BY_HAND = [
    # unlike fixed signs
    ("a", "b", ("signs", (), "a", "b")), ("a", ("f", "a"), ("signs", (), "a", "f")), (("f", "?x"), ("g", "?x", "?y"), ("signs", (), "f", "g")), ("z", "o", ("signs", (), "z", "o")),
    (("f", "a"), ("f", "b"), ("signs", (0,), "a", "b")), (("g", "?x", "a"), ("g", "b", "b"), ("signs", (1,), "a", "b")), (("g", "a", "a"), ("g", "b", ("f", "a")), ("signs", (0,), "a", "b")),
    (("h", "?x", ("g", "a", ("f", "z")), "a"), ("h", "a", ("g", "?y", ("f", "a")), "b"), ("signs", (1, 1, 0), "z", "a")), (("h", "a", "a", "b"), ("h", "a", "a", ("f", "a")), ("signs", (2,), "b", "f")),
    # a wish within its own
    ("?x", ("f", "?x"), ("own", (), "?x", "f")), (("f", "?x"), ("f", ("g", "a", ("s", "?x", "b"))), ("own", (0,), "?x", "g")), ("?x", ("s", "?y", ("f", "?x")), ("own", (), "?x", "f")),
    ("?x", ("u", "a", ("f", ("s", "?x", "b"))), ("own", (), "?x", "f")), (("g", "?y", "?x"), ("g", "?x", ("f", "?x")), ("own", (1,), "?x", "f")), ("?x", ("t", ("s", ("f", "?x"), "a"), "b"), ("own", (), "?x", "f")),
    # the first one that is met
    (("g", "a", "b"), ("g", "b", "a"), ("signs", (0,), "a", "b")), (("g", ("f", "a"), "a"), ("g", ("f", "b"), "b"), ("signs", (0, 0), "a", "b")), (("g", "?x", "a"), ("g", ("f", "?x"), "b"), ("own", (0,), "?x", "f")),
    (("g", "a", "?x"), ("g", "b", ("f", "?x")), ("signs", (0,), "a", "b")), (("g", ("g", "?x", "?y"), "a"), ("g", ("g", "a", ("f", "?y")), "b"), ("own", (0, 1), "?y", "f")),
    # the flat forms
    (("s", "z", ("f", "a")), ("f", ("s", "b", "z")), ("signs", (0,), "a", "b")), (("g", ("s", "a", "z"), "?x"), ("g", ("t", "b", "o"), "?x"), ("signs", (0,), "a", "b")), (("s", "z", "z"), "a", ("signs", (), "z", "a")),
    # none
    ("a", "a", None), ("?x", "?x", None), ("?x", "?y", None), ("?x", "a", None), (("f", "?x"), ("f", "a"), None), (("f", "a"), ("s", "a", "z", ("s", "?x", "z")), None), ("?x", ("s", "?x", "a"), None),
    ("?x", ("s", "?x", ("f", "?y")), None), ("?x", ("u", "?x", "?x"), None), ("?x", ("t", ("s", "?x", "a"), "b"), None), (("s", "a", "b"), ("s", "a", "a"), None), (("s", "a", "b"), ("t", "a", "b"), None),
    (("u", "a", "b"), "a", None), ("z", ("s", "?x", "a"), None), (("s", "?x", ("f", "a")), ("s", "?x", ("f", "b")), None), (("f", ("s", "a", "?x")), ("f", ("f", "a")), None), (("u", "?x", ("f", "?x")), ("u", "?y", "a"), None),
    (("g", "?x", "?x"), ("g", "a", "b"), None), (("g", "?x", "?y"), ("g", ("f", "?y"), ("f", "?x")), None), (("s", "?x", "?y"), ("f", "?x"), None), (("g", ("s", "a", "b"), "?x"), ("g", ("t", "a", "b"), "?y"), None),
]


def exchanged(told):
    """What is told of the two terms the other way round."""
    return (told[0], told[1], told[3], told[2]) if told is not None and told[0] == "signs" else told


def places_of(signs, one, other, place):
    """All places that are gone to, in order, and the two there."""
    found = [(place, one, other)]
    if isinstance(one, tuple) and isinstance(other, tuple) and one[0] == other[0] and signs.nought(one[0]) is None:
        for at in range(1, len(one)):
            found.extend(places_of(signs, one[at], other[at], place + (at - 1,)))
    return found


def around(signs, wish, term):
    """The names of all fixed signs within whose parts the wish stands."""
    if isinstance(term, str):
        return set()
    names = set().union(*[around(signs, wish, part) for part in term[1:]])
    return names | ({term[0]} if signs.many(term[0]) is not None and (wish in term[1:] or f"'{wish}'" in str(term)) else set())


class Clash(unittest.TestCase):
    def test_by_hand(self):
        signs = sample_signs()
        for one, other, wanted in BY_HAND:
            told = clash(signs, one, other)
            self.assertEqual(kinds(told), kinds(wanted), (one, other))
            self.assertEqual(kinds(clash(signs, as_lists(other), as_lists(one))), kinds(exchanged(wanted)), (one, other))
            if wanted is not None:
                self.assertEqual(table(signs, one, other), [])

    def test_of_several_names_any(self):
        signs = sample_signs()
        for one, other, names in [("?x", ("f", ("g", "?x", "a")), "fg"), ("?x", ("s", ("f", "?x"), ("g", "a", "?x")), "fg"), ("?x", ("g", "a", ("h", "a", ("f", "?y"), "?x")), "gh")]:
            told = clash(signs, one, other)
            self.assertEqual(told[:3], ("own", (), "?x"))
            self.assertIn(told[3], names)

    def assert_first(self, signs, one, other):
        """The clash of two flat terms is the first one, as going through all places has it."""
        told = clash(signs, one, other)
        for place, left, right in places_of(signs, one, other, ()):
            heads = [term if isinstance(term, str) else term[0] for term in (left, right)]
            if None not in [signs.many(name) for name in heads] and heads[0] != heads[1]:
                self.assertEqual(told, ("signs", place, heads[0], heads[1]))
                return told
            for wish, term in ((left, right), (right, left)):
                if is_wish(wish) and around(signs, wish, term):
                    self.assertEqual(told[:3], ("own", place, wish))
                    self.assertIn(told[3], around(signs, wish, term))
                    return told
        self.assertIsNone(told)
        return told

    def test_all_small_terms(self):
        signs = sample_signs()
        terms = sorted({flat(signs, term) for term in small_terms(["?x", "?y", "a", "z"], ["f"], ["s", "u"], 2)}, key=str)
        for place, one in enumerate(terms):
            for other in terms[place % 3::3]:
                self.assert_first(signs, one, other)

    def test_terms_of_any_kind(self):
        signs = signs_of_sums(("s", "z"), ("t", "o"), ("u", ""))
        words = []
        for seed in range(1500):
            chance = random.Random(seed)
            one, other = [self.some_pair_side(chance, seed) for side in range(2)]
            try:
                told = self.assert_first(signs, flat(signs, one), flat(signs, other))
            except TooMuch:
                continue
            words.append(told and told[0])
            self.assertEqual(kinds(clash(signs, set_otherwise(chance, signs, one), set_otherwise(chance, signs, other))), kinds(told))
            if told is not None:
                self.assertEqual(table(signs, one, other), [])
        self.assertGreater(min(words.count("own"), words.count("signs"), words.count(None)), 60)

    def some_pair_side(self, chance, seed):
        inner = [some_term(chance, chance.randint(1, 3), ["?x", "?y", "?x", "a", "z"], "stu") for part in range(2)]
        return ("g", ("f", inner[0]), inner[1]) if seed % 3 else ("g", inner[0], inner[1])


class Refused(unittest.TestCase):
    def test_what_is_no_term(self):
        for wrong in odd_things() + ["nix", ("s", "a"), ("s", "a", ("f", "nix"))]:
            for other in ("a", wrong, ("s",) + ("a",) * 7):
                self.assertRaises(NoTerm, clash, sample_signs(), wrong, other)
                self.assertRaises(NoTerm, clash, sample_signs(), other, wrong)

    def test_what_is_too_much(self):
        for signs, (one, other) in itertools.product((sample_signs(), signs_of_sums(("s", ""), ("t", ""))), too_much()):
            self.assertRaises(TooMuch, clash, signs, one, other)
            self.assertRaises(TooMuch, clash, signs, as_lists(other), as_lists(one))

    def test_what_is_not_too_much(self):
        for one, other in not_too_much():
            self.assertIsNone(clash(sample_signs(), one, other))


if __name__ == "__main__":
    unittest.main()
