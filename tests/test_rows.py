"""Equations, rows that hold, least rows, and what a row is made of."""

import itertools
import unittest

from common import kinds, odd_things
from likefill.errors import NoCounts, NoRow
from likefill.rows import holds, least_rows, made_of

LEAST = [
    ([1], [1], [[1, 1]]), ([2], [4], [[2, 1]]), ([3], [2], [[2, 3]]), ([4], [3], [[3, 4]]), ([4], [4], [[1, 1]]),
    ([1, 1], [1], [[0, 1, 1], [1, 0, 1]]), ([1], [1, 1], [[1, 0, 1], [1, 1, 0]]), ([2], [1, 1], [[1, 0, 2], [1, 1, 1], [1, 2, 0]]),
    ([1, 2], [2], [[0, 1, 1], [2, 0, 1]]), ([2, 1], [3], [[0, 3, 1], [1, 1, 1], [3, 0, 2]]),
    # one side empty: nothing but 0 holds
    ([], [1], []), ([1, 2, 3, 4], [], []), ([], [4, 4, 4, 4], []),
]

NO_EQUATIONS = [
    ([], []), ((), []), ([0], [1]), ([1], [0]), ([5], [1]), ([1], [5]), ([-1], [1]), ([1, 1, 1, 1, 1], [1]), ([1], [1, 1, 1, 1, 1]), ([True], [1]),
    ([1], [False]), ([1, True], [1]), (["1"], [1]), ([None], [1]), ([[1]], [1]), ("1", [1]), ([1], "1"), ([1], {1: 1}), ({1}, [1]), (range(1, 3), [1]),
    (b"\x01", [1]), ([10 ** 30], [1]),
]


def equations(greatest, most):
    """All equations of at most so many numbers on a side, up to the greatest, each side in order."""
    sides = [side for many in range(most + 1) for side in itertools.combinations_with_replacement(range(1, greatest + 1), many)]
    return [(list(left), list(right)) for left, right in itertools.product(sides, repeat=2) if left or right]


def weighs_alike(left, right, row):
    front, behind = row[:len(left)], row[len(left):]
    return sum(map(int.__mul__, left, front)) == sum(map(int.__mul__, right, behind))


def is_under(row, other):
    return all(number <= above for number, above in zip(row, other))


def all_least(left, right):
    """The least rows, picked out of all rows with numbers up to the greatest one of the equation."""
    greatest = max(left + right)
    rows = itertools.product(range(greatest + 1), repeat=len(left) + len(right))
    held = sorted((row for row in rows if any(row) and weighs_alike(left, right, row)), key=sum)
    least = []
    for row in held:
        if not any(is_under(other, row) for other in least):
            least.append(row)
    return [list(row) for row in sorted(least)]


class Holds(unittest.TestCase):
    def test_each(self):
        for left, right, row, told in [
            ([1], [1], [0, 0], True), ([1], [1], [3, 3], True), ([1], [1], [3, 2], False), ([2, 3], [4], [2, 0, 1], True), ([2, 3], [4], [0, 2, 1], False),
            ([4, 4, 4, 4], [1, 2, 3, 4], [1, 1, 1, 1, 1, 2, 1, 2], True), ([4, 4, 4, 4], [1, 2, 3, 4], [1, 1, 1, 1, 2, 1, 2, 1], False),
            ([], [2], [0], True), ([], [2], [1], False), ([2], [], [0], True), ([2], [], [1], False), ([3], [2], [2 * 10 ** 30, 3 * 10 ** 30], True),
            ([3], [2], [2 * 10 ** 30, 3 * 10 ** 30 + 1], False),
        ]:
            self.assertIs(holds(left, right, row), told)
            self.assertIs(holds(tuple(left), tuple(right), tuple(row)), told)


class Least(unittest.TestCase):
    def test_each(self):
        for left, right, told in LEAST:
            self.assertEqual(kinds(least_rows(left, right)), kinds(told))
            self.assertEqual(kinds(least_rows(tuple(left), tuple(right))), kinds(told))

    def test_none_is_missing_and_none_too_many(self):
        for left, right in equations(4, 2) + [([3, 4, 1], [2, 4]), ([4, 3, 3], [4, 2]), ([2, 4], [3, 1, 1]), ([1, 2, 2], [2, 1, 2]), ([2, 2, 1, 1], [2, 1])]:
            self.assertEqual(least_rows(left, right), all_least(left, right), (left, right))

    def test_four_and_four(self):
        for left, right in [([1, 2, 3, 4], [4, 3, 2, 1]), ([4, 4, 4, 4], [3, 3, 3, 3]), ([4, 4, 4, 4], [4, 4, 4, 4]), ([2, 3, 3, 4], [1, 3, 4, 4])]:
            rows = least_rows(left, right)
            self.assertEqual(rows, sorted(rows))
            for row in rows:
                self.assertIs(holds(left, right, row), True)
            for row, other in itertools.permutations(rows, 2):
                self.assertFalse(is_under(row, other))
        self.assertEqual(len(least_rows([4, 4, 4, 4], [3, 3, 3, 3])), 20 * 35)
        self.assertEqual(len(least_rows([4, 4, 4, 4], [4, 4, 4, 4])), 16)
        self.assertEqual(least_rows([1, 1, 1, 1], [1, 1, 1, 1]),
                         sorted([[int(at in (one, 4 + other)) for at in range(8)] for one in range(4) for other in range(4)]))


class MadeOf(unittest.TestCase):
    def assert_made(self, left, right, row):
        counts, rows = made_of(left, right, row), least_rows(left, right)
        self.assertIs(type(counts), list)
        self.assertEqual(len(counts), len(rows))
        self.assertTrue(all(type(many) is int and many >= 0 for many in counts))
        self.assertEqual([sum(many * each[at] for many, each in zip(counts, rows)) for at in range(len(row))], list(row))

    def test_all_small_rows_that_hold(self):
        for left, right in equations(4, 2):
            for row in itertools.product(range(5), repeat=len(left) + len(right)):
                if weighs_alike(left, right, row):
                    self.assert_made(left, right, list(row))

    def test_four_and_four(self):
        for row in ([2, 3, 4, 5, 4, 6, 4, 3], [0] * 8, [12, 0, 0, 0, 0, 0, 4, 0], [10 ** 20, 0, 0, 1, 4, 0, 0, 25 * 10 ** 18]):
            self.assert_made([1, 2, 3, 4], [1, 2, 3, 4], row)
            self.assert_made((1, 2, 3, 4), (1, 2, 3, 4), tuple(row))

    def test_of_0_and_of_one_side_alone(self):
        self.assertEqual(made_of([1, 1], [1], [0, 0, 0]), [0, 0])
        self.assertEqual(made_of([1, 2], [], [0, 0]), [])
        self.assertEqual(made_of([2], [4], [6, 3]), [3])

    def test_a_row_that_does_not_hold(self):
        for left, right, row in [([1], [1], [1, 0]), ([1], [1], [0, 1]), ([2], [], [1]), ([], [2], [1]), ([2, 3], [4], [1, 1, 1])]:
            self.assertRaises(NoRow, made_of, left, right, row)


class Refused(unittest.TestCase):
    def test_what_is_no_equation(self):
        for left, right in NO_EQUATIONS:
            self.assertRaises(NoCounts, least_rows, left, right)
            for row in ([0], [0, 0], None, "00"):
                self.assertRaises(NoCounts, holds, left, right, row)
                self.assertRaises(NoCounts, made_of, left, right, row)

    def test_things_of_other_sorts(self):
        for thing in odd_things():
            if not (isinstance(thing, (list, tuple)) and len(thing) == 0):
                self.assertRaises(NoCounts, least_rows, thing, [1])
                self.assertRaises(NoCounts, least_rows, [1], thing)
            if type(thing) is not int or thing != 1:
                self.assertRaises(NoCounts, least_rows, [thing], [1])
                self.assertRaises(NoCounts, least_rows, [1], [2, thing])

    def test_what_is_no_row(self):
        for call in (holds, made_of):
            for wrong in odd_things() + [[0], [0, 0, 0], [0, -1], [-1, -1], [True, True], [False, False], [0, True], ["0", 0], "00", b"00", {0: 0, 1: 1},
                                         [None, None], [[0], [0]], [0, [0]], range(2)]:
                self.assertRaises(NoRow, call, [1], [1], wrong)
            for thing in odd_things():
                if type(thing) is not int or thing < 0:
                    self.assertRaises(NoRow, call, [1], [1], [0, thing])


if __name__ == "__main__":
    unittest.main()
