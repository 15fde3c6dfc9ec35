"""Shares of a whole number by some numbers."""

import itertools
import unittest

from common import kinds, odd_things
from likefill.errors import NoCounts
from likefill.shares import shares


def all_shares(left, whole):
    """The shares, picked out of all lists of numbers that are not too great."""
    rows = itertools.product(*[range(whole // size + 1) for size in left])
    return [list(row) for row in rows if sum(size * number for size, number in zip(left, row)) == whole]


class Shares(unittest.TestCase):
    def test_each(self):
        for left, whole, told in [
            ([1], 0, [[0]]), ([4], 0, [[0]]), ([1, 2, 3, 4], 0, [[0, 0, 0, 0]]), ([1], 24, [[24]]), ([4], 24, [[6]]), ([4], 23, []), ([2, 4], 7, []),
            ([1, 1], 2, [[0, 2], [1, 1], [2, 0]]), ([2, 1], 4, [[0, 4], [1, 2], [2, 0]]), ([3, 2], 7, [[1, 2]]),
            ([4, 3, 2], 6, [[0, 0, 3], [0, 2, 0], [1, 0, 1]]),
        ]:
            self.assertEqual(kinds(shares(left, whole)), kinds(told))
            self.assertEqual(kinds(shares(tuple(left), whole)), kinds(told))

    def test_all_of_them_each_once_in_order(self):
        for many in (1, 2, 3):
            for left in itertools.product(range(1, 5), repeat=many):
                for whole in (0, 1, 5, 12, 24):
                    self.assertEqual(shares(list(left), whole), all_shares(left, whole))
        for left in [(1, 2, 3, 4), (4, 3, 2, 1), (3, 3, 4, 2), (4, 4, 4, 4)]:
            for whole in (0, 3, 11, 24):
                self.assertEqual(shares(list(left), whole), all_shares(left, whole))

    def test_24_by_four(self):
        told = shares([1, 1, 1, 1], 24)
        self.assertEqual(len(told), 2925)
        self.assertEqual(told, sorted(told))
        self.assertEqual((told[0], told[-1]), ([0, 0, 0, 24], [24, 0, 0, 0]))

    def test_anything_else(self):
        for left in [[], (), [1] * 5, [0], [5], [-1], [1, 0], [True], [1, False], ["1"], [None], [[1]], "1", "", None, {1}, {1: 1}, b"\x01", range(1, 3),
                     1, [10 ** 30]]:
            self.assertRaises(NoCounts, shares, left, 4)
            self.assertRaises(NoCounts, shares, left, None)
        for whole in [-1, 25, True, False, None, "4", [4], (), {}, b"4", 10 ** 30, -10 ** 30]:
            self.assertRaises(NoCounts, shares, [1, 2], whole)

    def test_things_of_other_sorts(self):
        for thing in odd_things():
            self.assertRaises(NoCounts, shares, thing, 4)
            if type(thing) is not int or thing != 1:
                self.assertRaises(NoCounts, shares, [thing], 4)
            if type(thing) is not int or not 0 <= thing <= 24:
                self.assertRaises(NoCounts, shares, [1, 2], thing)


if __name__ == "__main__":
    unittest.main()
