"""Marks of terms never become less as wishes are filled, and so never hide that one filling is another one further."""

import itertools
import random
import unittest

from common import signs_with_noughts, some_term
from likefill.marks import is_no_more, marks_of, marks_of_row, packed
from likefill.terms import flat, put_in


class Marks(unittest.TestCase):
    def some_terms(self):
        for signs, seed in itertools.product(signs_with_noughts(), range(400)):
            chance = random.Random(seed)
            noughts, sum_names = [nought for name, nought in signs.sums() if nought != ""], [name for name, nought in signs.sums()]
            term = flat(signs, some_term(chance, chance.randint(1, 7), ["?x", "?y", "?v", "a", "b"] + noughts, sum_names))
            filling = {wish: flat(signs, some_term(chance, chance.choice([1, 1, 3]), ["?x", "a"] + noughts * 3, sum_names)) for wish in ("?x", "?y", "?v")}
            yield signs, term, put_in(signs, filling, term)

    def test_never_less(self):
        for signs, term, after in self.some_terms():
            marks = marks_of(signs, after)
            for mark, many in marks_of(signs, term).items():
                self.assertLessEqual(many, marks.get(mark, 0), (signs.sums(), term, after, mark))

    def test_packed(self):
        for signs, term, after in itertools.islice(self.some_terms(), 0, None, 5):
            for rows in ([[term, after], [after, term]], [[term], ["?x"]], [[after, "a"], [term, "a"]]):
                marks = [marks_of_row(signs, row) for row in rows]
                numbers, guards = packed(marks)
                for at, by in itertools.product(range(2), repeat=2):
                    wanted = all(many <= marks[by].get(mark, 0) for mark, many in marks[at].items())
                    self.assertEqual(is_no_more(numbers[at], numbers[by], guards), wanted, (signs.sums(), rows))

    def test_many_alike(self):
        signs = signs_with_noughts()[0]
        few, more, most = [marks_of_row(signs, [("s",) + ("a",) * many]) for many in (100, 200, 400)]
        numbers, guards = packed([few, more, most])
        self.assertTrue(all(is_no_more(numbers[at], numbers[by], guards) for at in range(3) for by in range(at, 3)))
        self.assertFalse(is_no_more(numbers[1], numbers[0], guards))


if __name__ == "__main__":
    unittest.main()
