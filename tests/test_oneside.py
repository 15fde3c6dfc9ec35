"""All ways to make a pattern alike a thing that stays as it is."""

import itertools
import random
import unittest

from common import as_lists, kinds, odd_things, planted, sample_signs, set_otherwise, signs_of_sums, signs_with_noughts, small_terms, some_term
from likefill.errors import NoTerm, TooMuch
from likefill.fillings import filled
from likefill.oneside import ways
from likefill.terms import flat, leaves, put_in, walked, wishes

# of the sums s with nought z, t with nought o, u with none
BY_HAND = [
    # no wishes in the pattern
    ("a", "a", [{}]), ("a", "b", []), (("s", "b", "a"), ("s", "a", "z", "b"), [{}]), (("s", "a", "z"), "a", [{}]), ("a", "?x", []), (("f", "a"), ("f", "?x"), []), (("t", "a", "a"), "a", []),
    # fixed signs
    ("?x", "a", [{"?x": "a"}]), ("?x", "?x", [{"?x": "?x"}]), ("?x", "?y", [{"?x": "?y"}]), (("f", "?x"), ("f", "?y"), [{"?x": "?y"}]), (("f", "?x"), "a", []), (("f", "?x"), "?x", []),
    (("g", "?x", "?y"), ("g", "?y", "?x"), [{"?x": "?y", "?y": "?x"}]), (("g", "?x", "?x"), ("g", "a", "?x"), []), (("g", "?x", "?x"), ("g", "?y", "?y"), [{"?x": "?y"}]),
    (("g", "?x", "?y"), ("g", "?x", "a"), [{"?x": "?x", "?y": "a"}]), ("?x", ("f", "?x"), [{"?x": ("f", "?x")}]), ("?x", ("s", "z", "b", "a"), [{"?x": ("s", "a", "b")}]),
    # sums without a nought
    (("u", "?x", "?y"), ("u", "a", "b"), [{"?x": "a", "?y": "b"}, {"?x": "b", "?y": "a"}]), (("u", "?x", "?y"), ("u", "a", "a"), [{"?x": "a", "?y": "a"}]), (("u", "?x", "?y"), "a", []),
    (("u", "?x", "?y"), ("u", "a", "a", "b"), [{"?x": "a", "?y": ("u", "a", "b")}, {"?x": "b", "?y": ("u", "a", "a")}, {"?x": ("u", "a", "b"), "?y": "a"}, {"?x": ("u", "a", "a"), "?y": "b"}]),
    (("u", "?x", "?x"), ("u", "a", "b", "a", "b"), [{"?x": ("u", "a", "b")}]), (("u", "?x", "?x"), ("u", "a", "b", "a"), []), (("u", "?x", "a"), ("u", "a", "?x"), [{"?x": "?x"}]),
    (("u", ("f", "?x"), "?y"), ("u", ("f", "a"), ("f", "b")), [{"?x": "a", "?y": ("f", "b")}, {"?x": "b", "?y": ("f", "a")}]), (("u", ("f", "?x"), ("f", "?x")), ("u", ("f", "a"), ("f", "b")), []),
    (("u", ("f", "?x"), ("f", "?y")), ("u", ("f", "a"), ("f", "a")), [{"?x": "a", "?y": "a"}]), (("u", "?x", "z"), ("u", "a", "z"), [{"?x": "a"}]),
    # noughts
    (("s", "?x", "?y"), "a", [{"?x": "a", "?y": "z"}, {"?x": "z", "?y": "a"}]), (("s", "?x", "?y"), "z", [{"?x": "z", "?y": "z"}]), (("s", "?x", "a"), "a", [{"?x": "z"}]), (("s", "?x", "a"), "z", []),
    (("s", "?x", "?x"), ("s", "a", "a"), [{"?x": "a"}]), (("s", "?x", "?x"), "a", []), (("s", "?x", "?x", "?y"), ("s", "a", "a"), [{"?x": "z", "?y": ("s", "a", "a")}, {"?x": "a", "?y": "z"}]),
    (("s", "?x", "?y"), ("s", "a", "a"), [{"?x": "z", "?y": ("s", "a", "a")}, {"?x": "a", "?y": "a"}, {"?x": ("s", "a", "a"), "?y": "z"}]), (("s", "?x", ("f", "?x")), ("f", "z"), [{"?x": "z"}]),
    (("s", "?x", "?y"), "?x", [{"?x": "?x", "?y": "z"}, {"?x": "z", "?y": "?x"}]), (("g", ("s", "?x", "?y"), "?x"), ("g", "a", "z"), [{"?x": "z", "?y": "a"}]),
    # a sum that falls away within another one
    (("s", ("t", "?x", "?y"), "a"), "a", [{"?x": "z", "?y": "o"}, {"?x": "o", "?y": "z"}]), (("t", "?x", ("s", "?y", "a")), "a", [{"?x": "o", "?y": "z"}]),
    (("s", ("t", "?x", "b"), "?y"), ("s", "a", "b"), [{"?x": "o", "?y": "a"}]), (("s", ("t", "?x", "b"), "?y"), ("s", "a", ("t", "a", "b")), [{"?x": "a", "?y": "a"}]),
    (("s", ("t", "?x", "?x"), "?y"), "a", []), (("s", ("t", "?x", "?x"), "?y"), "o", [{"?x": "o", "?y": "z"}]),
    (("s", ("t", "?x", "?y"), "a"), ("s", "a", "a", "b"), [{"?x": ("s", "a", "b"), "?y": "o"}, {"?x": "o", "?y": ("s", "a", "b")}]),
    (("u", ("s", "?x", "a"), "b"), ("u", "a", "b"), [{"?x": "z"}]),
]


def what_a_wish_may_be(signs, thing):
    """All terms by which a wish of a pattern may be filled, so that the pattern becomes the thing."""
    found = [nought for name, nought in signs.sums() if nought != ""]
    for at in walked(thing):
        found.append(at)
        if not isinstance(at, str) and signs.nought(at[0]) is not None:
            found.extend(put_in(signs, {}, (at[0],) + some) for many in range(2, len(at) - 1) for some in itertools.combinations(at[1:], many))
    return sorted(set(found), key=str)


def by_trying(signs, pattern, thing):
    """All ways, by trying each term for each wish; both terms are flat."""
    names = wishes(signs, pattern)
    rows = itertools.product(what_a_wish_may_be(signs, thing), repeat=len(names))
    return [dict(zip(names, row)) for row in rows if put_in(signs, dict(zip(names, row)), pattern) == thing]


class Ways(unittest.TestCase):
    def assert_ways(self, signs, pattern, thing, wanted):
        told = ways(signs, pattern, thing)
        self.assertIs(type(told), list)
        self.assertEqual(sorted(map(str, map(kinds, told))), sorted(map(str, map(kinds, wanted))), (signs.sums(), pattern, thing))

    def test_by_hand(self):
        signs = sample_signs()
        for pattern, thing, wanted in BY_HAND:
            self.assert_ways(signs, pattern, thing, wanted)
            self.assert_ways(signs, as_lists(pattern), as_lists(thing), wanted)

    def test_all_small_terms(self):
        signs = signs_of_sums(("s", "z"), ("t", "o"))
        patterns = sorted({flat(signs, term) for term in small_terms(["?x", "?y", "a"], ["f"], ["s", "t"], 3)}, key=str)
        things = sorted({flat(signs, term) for term in small_terms(["a", "?x", "z"], ["f"], ["s", "t"], 3)}, key=str)
        for place, pattern in enumerate(patterns):
            for thing in things[place % 211::211]:
                self.assert_ways(signs, pattern, thing, by_trying(signs, pattern, thing))

    def test_things_that_fit(self):
        tried = 0
        for signs, seed in itertools.product(signs_with_noughts(), range(150)):
            chance = random.Random(seed)
            pattern, beside, filling = planted(chance, signs, ["?x", "?y", "?v"][:chance.randint(1, 3)])
            thing = put_in(signs, filling, pattern)
            if leaves(signs, thing) <= 6 and len(wishes(signs, pattern)) < 3:
                tried += 1
                self.assert_ways(signs, pattern, thing, by_trying(signs, pattern, thing))
        self.assertGreater(tried, 200)

    def test_set_otherwise(self):
        signs = sample_signs()
        for seed in range(100):
            chance = random.Random(seed)
            pattern, thing, filling = planted(chance, signs, ["?x", "?y"])
            thing = put_in(signs, filling, pattern)
            if leaves(signs, thing) <= 8:
                self.assert_ways(signs, set_otherwise(chance, signs, pattern), as_lists(set_otherwise(chance, signs, thing)), ways(signs, pattern, thing))

    def test_the_thing_s_wishes_stay(self):
        signs = sample_signs()
        for seed in range(200):
            chance = random.Random(seed)
            pattern = some_term(chance, chance.randint(1, 6), ["?x", "?y", "?v", "?w", "a"], "stu")
            filling = {wish: flat(signs, some_term(chance, chance.randint(1, 2), ["?x", "?y", "?q", "z"], "stu")) for wish in ["?x", "?y", "?v", "?w"]}
            thing = put_in(signs, filling, pattern)
            if leaves(signs, thing) <= 7:
                told = ways(signs, pattern, thing)
                self.assertIn({wish: filling[wish] for wish in wishes(signs, pattern)}, told)
                for way in told:
                    self.assertEqual(sorted(way), wishes(signs, pattern))
                    self.assertEqual(filled(signs, way, pattern), thing)
                self.assertEqual(len({str(sorted(way.items())) for way in told}), len(told))

    def test_many_alike_parts(self):
        for signs, many in ((signs_of_sums(("s", "z")), 165), (signs_of_sums(("s", "")), 35)):
            self.assertEqual(len(ways(signs, ("s", "?x", "?y", "?v", "?w"), ("s",) + ("a",) * 8)), many)
        self.assertEqual(len(ways(signs_of_sums(("s", "z")), ("s", "?x", "?y", "?v"), ("s", "a", "b", "z", "o", "?a", "?b", "?c", "?d", "n"))), 3 ** 8)


class Refused(unittest.TestCase):
    def test_what_is_no_term(self):
        signs = sample_signs()
        for wrong in odd_things() + ["nix", ("s", "a"), ("s", "a", ("f", "nix"))]:
            for other in ("a", wrong, ("u",) + ("a",) * 9, ("u", "?a", "?b", "?c", "?d", "?e")):
                self.assertRaises(NoTerm, ways, signs, wrong, other)
                self.assertRaises(NoTerm, ways, signs, other, wrong)

    def test_the_fifth_wish_and_the_ninth_leaf(self):
        signs = sample_signs()
        self.assertRaises(TooMuch, ways, signs, ["g", ["s", "?a", "?b"], ["h", "?c", "?d", "?e"]], ["g", "a", "a"])
        self.assertRaises(TooMuch, ways, signs, ("u",) + ("a",) * 9, ("u",) + ("a",) * 9)
        self.assertRaises(TooMuch, ways, signs, ("u", "?a", "?b", "?c", "?d", "?e"), "a")
        self.assertRaises(TooMuch, ways, signs, ("s", "?a", "?a", "?a", "?a", "?a", "?a", "?a", "?a", "?a"), "a")
        self.assertRaises(TooMuch, ways, signs, "?a", ("s", "?a", "?a", "?a", "?a", "?a", "?a", "?a", "?a", "?a"))
        self.assertRaises(TooMuch, ways, signs, "?a", ("g", ("s", "a", "b", "a", "b"), ("s", "a", "b", "a", "b", "b")))
        self.assertRaises(TooMuch, ways, signs, ("g", ("s", "a", "b", "a", "b"), ("s", "a", "b", "a", "b", "b")), ("f", "a"))

    def test_what_is_not_too_much(self):
        signs = sample_signs()
        self.assertEqual(len(ways(signs, ("u", "?a", "?b", "?c", "?d"), ("u", "a", "b", "z", "o"))), 24)
        self.assertEqual(len(ways(signs, ("g", ("s", "?a", "?b"), ("g", "?c", "?d")), ("g", ("f", "a"), ("g", "?1", "?2")))), 2)
        # wishes of the thing, parts of a sum, a wish many times among them, leaves beyond the flat ones
        self.assertEqual(ways(signs, "?x", ("u", "?a", "?b", "?c", "?d", "?e", "?f", "?g", "?h")), [{"?x": ("u", "?a", "?b", "?c", "?d", "?e", "?f", "?g", "?h")}])
        self.assertEqual(ways(signs, ("u",) + ("?x",) * 8, ("u",) + ("a",) * 8), [{"?x": "a"}])
        self.assertEqual(ways(signs, ("s", "?x", "?x", "?x"), ("s", "?x", "?x", "?x")), [{"?x": "?x"}])
        self.assertEqual(ways(signs, ("s", "?x") + ("z",) * 12, ("s", "a") + ("z",) * 12), [{"?x": "a"}])


if __name__ == "__main__":
    unittest.main()
