"""Tables of several pairs of terms at once."""

import itertools
import random
import unittest

from common import (as_lists, assert_cover_each_other, assert_none_too_many, crowded, goes_through, kinds, not_too_much, odd_things, planted, sample_signs, set_otherwise, signs_of_sums, signs_with_noughts,
                    too_much, wishes_of_two)
from likefill.errors import NoTerm, TooMuch
from likefill.fillings import filled, looked_over, new_wishes
from likefill.pairs import table_of
from likefill.tables import table
from likefill.terms import put_in, wishes

NAMES = ["?x", "?y", "?v"]
RENAMED = {"?x": "?zz", "?y": "?x", "?v": "?aa", "?w": "?b0"}

# of the sums s with nought z, t with nought o, u with none: pairs, and how many fillings
BY_HAND = [
    ([], 1), ([("a", "a")], 1), ([("a", "b")], 0), ([("?x", "?y")], 1), ([("?x", "a"), ("?x", "b")], 0), ([("?x", "a"), ("?y", "b"), ("?v", "?x")], 1), ([("?x", ("f", "?y")), ("?y", ("f", "?x"))], 0),
    ([(("u", "?x", "?y"), ("u", "a", "b"))], 2), ([(("u", "?x", "?y"), ("u", "a", "b")), ("?x", "a")], 1), ([("?x", "a"), (("u", "?x", "?y"), ("u", "a", "b"))], 1), ([(("u", "?x", "?y"), ("u", "a", "b")), ("?x", "?y")], 0),
    ([(("u", "?x", "?y"), ("u", "?v", "?w"))], 7), ([(("u", "?x", "?y"), ("u", "?v", "?w")), (("u", "?x", "?v"), ("u", "?y", "?w"))], 1), ([(("u", "?x", "?y"), ("u", "a", "b")), (("u", "?v", "?w"), ("u", "a", "b"))], 4),
    ([(("s", "?x", "?y"), ("s", "a", "b"))], 4), ([(("s", "?x", "?y"), ("s", "a", "b")), (("s", "?x", "?v"), "a")], 2), ([(("s", "?x", "?y"), "a"), (("t", "?x", "?y"), "?v")], 2), ([(("s", "?x", "?y"), "a"), (("t", "?x", "?y"), "z")], 0),
    ([(("s", "?x", "?y"), "a"), (("t", "?x", "?y"), ("t", "a", "z"))], 2), ([("?x", ("s", "?y", "?v")), ("?y", ("s", "?x", "?w"))], 1), ([("?x", ("s", "?x", "?y")), ("?y", "a")], 0),
    ([(("s", "?x", "?x"), ("s", "?y", "?y")), (("f", "?x"), ("f", ("s", "a", "?v"))), ("?v", "?w")], 1),
]


def names_of(signs, pairs):
    return sorted({wish for pair in pairs for term in pair for wish in wishes(signs, term)})


def some_pairs(chance, signs):
    """Pairs that are all made alike by one filling, or pairs of which nobody knows; and the filling or None."""
    if chance.random() < 0.4:
        pairs = [crowded(chance, signs, NAMES) for time in range(chance.randint(1, 2))]
        return (pairs + [(chance.choice(NAMES), chance.choice(NAMES + ["a"]))])[:3], None
    one, other, filling = planted(chance, signs, NAMES)
    pairs = [(one, other)]
    for time in range(chance.randint(0, 2)):
        left, right = crowded(chance, signs, NAMES)
        pairs.append((left, put_in(signs, filling, left) if chance.random() < 0.5 else left))
    return pairs, filling


class TableOf(unittest.TestCase):
    def assert_table_of(self, signs, pairs, told):
        names = names_of(signs, pairs)
        self.assertIs(type(told), list)
        for filling in told:
            self.assertEqual(kinds(looked_over(signs, filling)), kinds(filling))
            self.assertLessEqual(set(filling), set(names))
            for term in filling.values():
                self.assertLessEqual(set(wishes(signs, term)), set(names) | set(new_wishes(40, names)))
            for one, other in pairs:
                self.assertEqual(filled(signs, filling, one), filled(signs, filling, other), (pairs, filling))
        some = told if len(told) < 12 else told[:6] + told[-6:]
        for filling, another in itertools.permutations(some, 2):
            self.assertFalse(goes_through(signs, filling, another, names), (pairs, filling, another))

    def test_by_hand(self):
        signs = sample_signs()
        for pairs, many in BY_HAND:
            for handed in (pairs, tuple(pairs), [as_lists(("pair",) + pair)[1:] for pair in pairs], pairs[::-1], [pair[::-1] for pair in pairs], (pairs + pairs)[:3] if len(pairs) == 1 else pairs):
                told = table_of(signs, handed)
                self.assertEqual(len(told), many, (pairs, told))
                self.assert_table_of(signs, pairs, told)

    def test_no_pairs(self):
        for signs in signs_with_noughts():
            self.assertEqual(kinds(table_of(signs, [])), kinds([{}]))
            self.assertEqual(kinds(table_of(signs, ())), kinds([{}]))

    def test_one_pair_as_table(self):
        for signs, seed in itertools.product(signs_with_noughts(), range(40)):
            one, other = crowded(random.Random(seed), signs, NAMES)
            try:
                wanted = table(signs, one, other)
            except TooMuch:
                continue
            told = table_of(signs, [(one, other)])
            self.assertEqual(len(told), len(wanted))
            if len(told) < 20:
                assert_cover_each_other(self, signs, wishes_of_two(signs, one, other), told, wanted)
                assert_none_too_many(self, signs, one, other, told)

    def test_pairs_of_any_kind(self):
        counts = [0, 0, 0]
        for signs, seed in itertools.product(signs_with_noughts(), range(70)):
            chance = random.Random(seed)
            pairs, filling = some_pairs(chance, signs)
            try:
                told = table_of(signs, pairs)
            except TooMuch:
                continue
            counts[min(len(told), 2)] += 1
            self.assert_table_of(signs, pairs, told)
            if filling is not None:
                self.assertTrue(any(goes_through(signs, each, filling, names_of(signs, pairs)) for each in told), (signs.sums(), pairs, filling))
            self.assert_same_otherwise(chance, signs, pairs, told)
        self.assertGreater(min(counts), 30)

    def assert_same_otherwise(self, chance, signs, pairs, told):
        """In another order, with sides exchanged, set otherwise, a pair twice, renamed: as many, and they cover each other."""
        names = names_of(signs, pairs)
        mixed = [chance.sample(pair, 2) for pair in chance.sample(pairs, len(pairs))]
        mixed = [[set_otherwise(chance, signs, term) for term in pair] for pair in mixed]
        again = table_of(signs, mixed + mixed[:1] if len(mixed) < 3 else mixed)
        self.assertEqual(len(again), len(told), (signs.sums(), pairs, mixed))
        renamed = table_of(signs, [(put_in(signs, RENAMED, one), put_in(signs, RENAMED, other)) for one, other in pairs])
        self.assertEqual(len(renamed), len(told), (signs.sums(), pairs))
        if len(told) < 12:
            assert_cover_each_other(self, signs, names, told, again)
            whole = [{RENAMED[wish]: filling.get(wish, wish) for wish in names} for filling in told]
            assert_cover_each_other(self, signs, [RENAMED[wish] for wish in names], renamed, whole)


class Refused(unittest.TestCase):
    def test_what_is_no_term(self):
        signs, much = sample_signs(), ("s",) + ("a",) * 7
        for wrong in odd_things() + ["nix", ("s", "a"), ("s", "a", ("f", "nix"))]:
            for pairs in ([(wrong, "a")], [("a", wrong)], [("a", "b"), (wrong, "a")], [("a", "a"), ("a", "a"), ("a", wrong)], [(much, "a"), ("a", wrong)], [(wrong, "a"), ("a", much)]):
                self.assertRaises(NoTerm, table_of, signs, pairs)

    def test_a_term_that_is_too_much_in_any_pair(self):
        for signs, (one, other) in itertools.product((sample_signs(), signs_of_sums(("s", ""), ("t", ""))), too_much()):
            for pairs in ([(one, other)], [(other, one)], [("a", "a"), (one, other)], [("a", "b"), ("a", "a"), (other, one)], [as_lists(("pair", one, other))[1:], ("a", "b")]):
                self.assertRaises(TooMuch, table_of, signs, pairs)

    def test_wishes_over_all_pairs(self):
        signs = sample_signs()
        self.assertEqual(len(table_of(signs, [("?a", "?b"), ("?c", "?d"), ("?a", "?d")])), 1)
        self.assertRaises(TooMuch, table_of, signs, [("?a", "?b"), ("?c", "?d"), ("?a", "?e")])
        self.assertRaises(TooMuch, table_of, signs, [("a", "b"), (("g", "?a", "?b"), "a"), (("h", "?c", "?d", "?e"), "a")])
        self.assertEqual(table_of(signs, [("a", "b"), (("g", "?a", "?b"), "a"), (("h", "?c", "?d", "?a"), "a")]), [])

    def test_what_is_not_too_much(self):
        for one, other in not_too_much():
            self.assertTrue(table_of(sample_signs(), [(one, other), (other, one), ("a", "a")]))


if __name__ == "__main__":
    unittest.main()
