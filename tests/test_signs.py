import unittest

from common import Prickly, kinds, odd_things, sample_signs
from likefill.errors import NoSigns
from likefill.signs import Signs

TWELVE = [
    ("a", 0), ("bc", 1), ("def", 2), ("ghij", 3), ("klmno", 0), ("pqrstu", 1),
    ("v", 2), ("wx", 3), ("yza", 0), ("bcde", 1), ("fghij", 2), ("klmnop", 3),
]


class Made(unittest.TestCase):
    def test_one_fixed_sign_and_no_sum(self):
        signs = Signs([("a", 0)], [])
        self.assertEqual(kinds(signs.fixed()), kinds([("a", 0)]))
        self.assertEqual(kinds(signs.sums()), kinds([]))

    def test_twelve_fixed_signs_and_three_sums(self):
        sums = [("sum", TWELVE[0][0]), ("times", ""), ("z", TWELVE[4][0])]
        signs = Signs(TWELVE, sums)
        self.assertEqual(kinds(signs.fixed()), kinds(TWELVE))
        self.assertEqual(kinds(signs.sums()), kinds(sums))

    def test_order_is_as_handed_in(self):
        signs = Signs([("z", 3), ("b", 0), ("a", 1)], [("y", "b"), ("x", "")])
        self.assertEqual(signs.fixed(), [("z", 3), ("b", 0), ("a", 1)])
        self.assertEqual(signs.sums(), [("y", "b"), ("x", "")])

    def test_names_of_one_and_of_six_letters(self):
        signs = Signs([("a", 0), ("zyxabc", 3), ("az", 1)], [("z", ""), ("zzzzzz", "a")])
        self.assertEqual([signs.many(name) for name in ("a", "zyxabc", "az")], [0, 3, 1])
        self.assertEqual([signs.nought(name) for name in ("z", "zzzzzz")], ["", "a"])

    def test_noughts_none_for_many_and_one_each(self):
        signs = Signs([("a", 0), ("b", 0)], [("r", ""), ("s", ""), ("t", "")])
        self.assertEqual([signs.nought(name) for name in "rst"], ["", "", ""])
        signs = Signs([("a", 0), ("b", 0), ("c", 0)], [("r", "c"), ("s", "a"), ("t", "b")])
        self.assertEqual([signs.nought(name) for name in "rst"], ["c", "a", "b"])

    def test_lists_and_tuples_in_any_place(self):
        fixed, sums = [("a", 0), ("f", 2)], [("s", "a")]
        for rows in ((fixed, sums), (tuple(fixed), tuple(sums)), ([["a", 0], ("f", 2)], (["s", "a"],)),
                     ((["a", 0], ["f", 2]), [["s", "a"]])):
            signs = Signs(*rows)
            self.assertEqual(kinds(signs.fixed()), kinds(fixed))
            self.assertEqual(kinds(signs.sums()), kinds(sums))
            self.assertEqual((signs.many("f"), signs.nought("s")), (2, "a"))


class Asked(unittest.TestCase):
    def test_many_of_each_number_of_parts(self):
        signs = sample_signs()
        self.assertEqual([signs.many(name) for name in "abzofgh"], [0, 0, 0, 0, 1, 2, 3])

    def test_nought_of_each_sum(self):
        signs = sample_signs()
        self.assertEqual([signs.nought(name) for name in "stu"], ["z", "o", ""])

    def test_many_of_anything_else_is_none(self):
        signs = sample_signs()
        for thing in odd_things() + ["s", "t", "u", "c", "A", "a ", "?a", "ff", ["f"], ("f",), b"f", {"f": 1}]:
            self.assertIsNone(signs.many(thing), repr(thing)[:50])

    def test_nought_of_anything_else_is_none(self):
        signs = sample_signs()
        for thing in odd_things() + ["a", "z", "o", "f", "h", "v", "S", "s ", "?s", "ss", ["s"], ("s",), b"s"]:
            self.assertIsNone(signs.nought(thing), repr(thing)[:50])


class Kept(unittest.TestCase):
    def test_lists_handed_in_are_as_they_were(self):
        fixed, sums = [["a", 0], ("f", 2)], [["s", "a"]]
        Signs(fixed, sums)
        self.assertEqual(kinds((fixed, sums)), kinds(([["a", 0], ("f", 2)], [["s", "a"]])))

    def test_lists_handed_in_and_changed_later(self):
        fixed, sums = [["a", 0], ["f", 2]], [["s", "a"]]
        signs = Signs(fixed, sums)
        fixed[1][1] = 3
        fixed[0][0] = "b"
        fixed.append(["c", 0])
        sums[0][1] = ""
        sums.clear()
        self.assertEqual(signs.fixed(), [("a", 0), ("f", 2)])
        self.assertEqual(signs.sums(), [("s", "a")])
        self.assertEqual([signs.many(name) for name in "abcf"], [0, None, None, 2])
        self.assertEqual(signs.nought("s"), "a")

    def test_lists_told_and_changed_later(self):
        signs = sample_signs()
        fixed, sums = signs.fixed(), signs.sums()
        fixed.append(("c", 0))
        fixed[0] = ("a", 3)
        sums.clear()
        self.assertEqual(signs.fixed(), sample_signs().fixed())
        self.assertEqual(signs.sums(), sample_signs().sums())
        self.assertEqual((signs.many("a"), signs.many("c"), signs.nought("s")), (0, None, "z"))

    def test_two_signs_don_t_meddle(self):
        one, other = Signs([("a", 0)], [("s", "a")]), Signs([("b", 0), ("a", 1)], [])
        self.assertEqual((one.many("a"), other.many("a"), one.many("b")), (0, 1, None))
        self.assertEqual((one.nought("s"), other.nought("s")), ("a", None))


class Refused(unittest.TestCase):
    def refused(self, fixed, sums):
        with self.assertRaises(NoSigns, msg=repr((fixed, sums))[:200]):
            Signs(fixed, sums)

    def test_a_name_twice(self):
        self.refused([("a", 0), ("a", 0)], [])
        self.refused([("a", 0), ("b", 1), ("a", 2)], [])
        self.refused([("a", 0)], [("a", "")])
        self.refused([("a", 0)], [("a", "a")])
        self.refused([("a", 0)], [("s", ""), ("s", "")])
        self.refused([("a", 0), ("b", 0)], [("s", "a"), ("t", ""), ("s", "b")])

    def test_a_nought_of_two_sums(self):
        self.refused([("a", 0), ("b", 0)], [("s", "a"), ("t", "a")])
        self.refused([("a", 0), ("b", 0)], [("s", "a"), ("t", "b"), ("u", "a")])

    def test_a_nought_that_is_no_fixed_sign_without_parts(self):
        for nought in ("c", "f", "g", "h", "s", "t", "A", "a ", " ", "?a", "aaaaaaa"):
            self.refused([("a", 0), ("f", 1), ("g", 2), ("h", 3)], [("s", nought), ("t", "")])
        for nought in odd_things() + [["a"], ("a",), b"a", Prickly()]:
            if not isinstance(nought, str) or nought != "":
                self.refused([("a", 0)], [("s", nought)])

    def test_no_fixed_sign_without_parts(self):
        self.refused([("a", 1)], [])
        self.refused([("a", 1), ("b", 2), ("c", 3)], [("s", "")])

    def test_too_many_and_too_few(self):
        self.refused([], [])
        self.refused((), ())
        self.refused(TWELVE + [("zz", 0)], [])
        self.refused([("a", 0)], [("s", ""), ("t", ""), ("u", ""), ("v", "")])

    def test_other_names(self):
        for name in ("", "abcdefg", "A", "aB", "a1", "1", "a b", " a", "a ", "a\n", "?a", "?", "a,", "(", "\u00e4",
                     "\u0131", "\u00df", "\uff41", "a\u0301", "\ud800", "a-b", "a_b"):
            self.refused([(name, 0), ("q", 0)], [])
            self.refused([("q", 0)], [(name, "")])
        for name in odd_things() + [["a"], ("a",), b"a", bytearray(b"a")]:
            self.refused([(name, 0), ("q", 0)], [])
            self.refused([("q", 0)], [(name, "")])

    def test_other_numbers_of_parts(self):
        for many in (-1, 4, 100, 10 ** 30, True, False, None, "", "0", "1", b"\x00", [], [0], (0,), {}, 0j, Prickly()):
            self.refused([("a", many), ("b", 0)], [])
            self.refused([("b", 0), ("a", many)], [("s", "b")])

    def test_pairs_that_are_none(self):
        for pair in odd_things() + ["a", "a0", ("a",), ("a", 0, 0), ["a", "", ""], {"a": 0, "b": 0}, {"a", 0}, b"ab",
                                    (("a", 0),), [["a", 0], ["b", 0]]]:
            self.refused([pair, ("q", 0)], [])
            self.refused([("q", 0), pair], [])
            self.refused([("q", 0)], [pair])

    def test_sums_told_as_fixed_signs_and_the_other_way(self):
        self.refused([("a", "")], [])
        self.refused([("a", 0)], [("s", 0)])
        self.refused([("a", 0)], [("s", 2)])

    def test_things_of_other_sorts(self):
        for thing in odd_things() + ["a", "ab", {"a": 0}, {("a", 0)}, iter([("a", 0)]), Signs([("a", 0)], [])]:
            self.refused(thing, [])
            if not (isinstance(thing, (list, tuple)) and len(thing) == 0):
                self.refused([("a", 0)], thing)


if __name__ == "__main__":
    unittest.main()
