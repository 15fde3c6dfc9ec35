import unittest

from common import Prickly, as_lists, kinds, list_in_itself, list_twice_in_itself, odd_things, sample_signs
from likefill.errors import NoTerm
from likefill.signs import Signs
from likefill.terms import alike, flat, is_ahead, is_term, leaves, wishes
from likefill.texts import write

WISHES = ["?a", "?z", "?0", "?9", "?x1", "?abcdefgh", "?01234567", "?a0b1c2d3"]

TERMS = WISHES + [
    "a", "b", "z", "o",
    ("f", "a"), ("g", "a", "?x"), ("h", "a", "?x", "?x"),
    ("s", "a", "a"), ("s", "?x", "?y", "?x", "z"), ("u", ("u", "a", "b"), ("s", "z", "o")), ("t", "o", "o"),
    ("f", ("f", ("g", ("s", "a", "?x", ("t", "b", "b")), "?y"))),
    ("s",) + ("?x",) * 40,
]

NO_TERMS = [
    "?", "?A", "?a b", "? a", " ?a", "?a ", "?a\n", "?abcdefghi", "?012345678", "??", "??a", "?a?", "?\u00e4",
    "?\u0661", "?\u00b2", "?_", "x", "?\ud800", "a?",
    "c", "A", "a ", " a", "a\n", "aa", "f", "g", "h", "s", "t", "u", "f(a)", "s(a,b)", "ab",
    ("a",), ["a"], ("?x",), ("f",), ("g",), ("s",), ["s"], ("u",), ("a", "b"), ("?x", "a"), ("z", "a", "a"),
    ("f", "a", "a"), ("g", "a"), ("g", "a", "a", "a"), ("h", "a", "a"), ("h", "a", "a", "a", "a"), ("s", "a"),
    ["t", "?x"], ("u", "a"), ("s", "z"), ("c", "a"), ("S", "a", "b"), ("", "a", "b"), ("f", ""), ("f", "c"),
    ("f", ("a",)), ("f", ["?x"]), ("f", "f"), ("g", "a", "s"), ("s", "a", ("s", "a")), (("f",), "a"), (["s"], "a", "b"),
    (b"f", "a"), ("f", b"a"), (None, "a"), (0, "a"), (Prickly(), "a"), ({"f": 1}, "a"), ("f", None), ("f", 0), ("f", {}),
    ("s", "a", "b", None), ("s", True, "b"), {"f": "a"}, {"s", "a", "b"}, ("f", ()), ("f", []), ("s", (), ()),
    ("f", ("f", ("f", ("f", ("f", "c"))))), ("s", "a", ("g", "b", ("h", "a", "b", ("f", Prickly())))),
    ("s", "a", "b", list_in_itself()), ("f", list_twice_in_itself()), ("f", iter(["a"])), iter(["f", "a"]),
]

OF_ONE = [flat, leaves, wishes, write]
OF_TWO = [alike, is_ahead]


class IsTerm(unittest.TestCase):
    def test_terms_of_tuples_and_of_lists(self):
        for term in TERMS:
            self.assertIs(is_term(sample_signs(), term), True, term)
            self.assertIs(is_term(sample_signs(), as_lists(term)), True, term)

    def test_lists_and_tuples_within_one_another(self):
        for term in (["g", ("f", ["f", "a"]), ["s", "a", ("s", "a", "b")]], ("g", ["f", ("f", "a")], ("s", "a", ["f", "a"]))):
            self.assertIs(is_term(sample_signs(), term), True, term)

    def test_what_is_no_term(self):
        for thing in NO_TERMS + odd_things():
            self.assertIs(is_term(sample_signs(), thing), False, repr(thing)[:60])

    def test_what_is_a_term_is_told_by_the_signs(self):
        one, other = Signs([("a", 0), ("s", 2)], []), Signs([("b", 0), ("a", 1)], [("s", "b")])
        for term, by_one, by_other in [("a", True, False), ("b", False, True), (("a", "b"), False, True),
                                       (("s", "?x", "?y"), True, True), (("s", "?x", "?y", "?z"), False, True)]:
            self.assertEqual((is_term(one, term), is_term(other, term)), (by_one, by_other), term)

    def test_a_wish_is_a_term_of_any_signs(self):
        for wish in WISHES:
            self.assertIs(is_term(Signs([("a", 0)], []), wish), True)

    def test_sums_of_many_parts(self):
        self.assertIs(is_term(sample_signs(), ("u",) + ("a",) * 60), True)

    def test_deep_terms(self):
        term = "a"
        for depth in range(150):
            term = ("f", term) if depth % 2 else ("s", "?x", term)
        self.assertIs(is_term(sample_signs(), term), True)
        self.assertIs(is_term(sample_signs(), ("g", term, "c")), False)


class Refused(unittest.TestCase):
    def test_by_each_that_takes_one_term(self):
        for call in OF_ONE:
            for thing in NO_TERMS + odd_things():
                with self.assertRaises(NoTerm, msg=repr((call, thing))[:90]):
                    call(sample_signs(), thing)

    def test_by_each_that_takes_two_terms(self):
        for call in OF_TWO:
            for thing in NO_TERMS + odd_things():
                for one, other in ((thing, "a"), ("a", thing), (thing, thing)):
                    with self.assertRaises(NoTerm, msg=repr((call, one, other))[:90]):
                        call(sample_signs(), one, other)

    def test_the_first_of_two_first(self):
        asked = []

        class Listening(Signs):
            def many(self, name):
                asked.append(name)
                return Signs.many(self, name)

        for call in OF_TWO:
            asked.clear()
            with self.assertRaises(NoTerm):
                call(Listening([("a", 0)], []), "first", "second")
            self.assertEqual((asked[0], "second" in asked), ("first", False))


class Leaves(unittest.TestCase):
    def test_as_often_as_they_stand_there(self):
        for term, many in [("?x", 1), ("a", 1), (("f", "a"), 1), (("h", "a", "a", "?x"), 3), (("s", "?x", "?x"), 2),
                           (("g", ("g", "a", "b"), ("s", "a", "b", "?x", ("f", "a"))), 6)]:
            self.assertEqual(leaves(sample_signs(), term), many)
            self.assertEqual(leaves(sample_signs(), as_lists(term)), many)

    def test_as_the_term_stands_not_flat(self):
        self.assertEqual(leaves(sample_signs(), ("s", "z", "z", ("s", "z", "a"))), 4)
        self.assertEqual(leaves(sample_signs(), ("t", "o", ("t", "o", "o"))), 3)

    def test_many(self):
        self.assertEqual(leaves(sample_signs(), ("s",) + ("?x",) * 40), 40)


class Wishes(unittest.TestCase):
    def test_each_once_as_texts_are_ordered(self):
        for term, told in [
            ("a", []), ("?x", ["?x"]), (("f", "?x"), ["?x"]), (("s", "?y", "?x", "?y"), ["?x", "?y"]),
            (("g", ("f", "?z"), ("s", "a", "?a", "?aa", "?1", "?10", "?2", "?a")), ["?1", "?10", "?2", "?a", "?aa", "?z"]),
            (("s",) + tuple(reversed(WISHES)), sorted(WISHES)),
        ]:
            self.assertEqual(kinds(wishes(sample_signs(), term)), kinds(told))
            self.assertEqual(kinds(wishes(sample_signs(), as_lists(term))), kinds(told))


if __name__ == "__main__":
    unittest.main()
