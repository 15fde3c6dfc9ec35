"""Terms paired, places in them, and single steps done there."""

import unittest

from common import as_lists, kinds, odd_things, sample_signs, small_terms
from likefill.errors import NoStep, NoTerm
from likefill.signs import Signs
from likefill.steps import done, paired
from likefill.terms import alike

PAIRED = [
    ("?x", "?x"), ("z", "z"), (("f", "a"), ("f", "a")), (("h", "b", "a", "z"), ("h", "b", "a", "z")),
    (("s", "b", "a"), ("s", "b", "a")), (("s", "b", "a", "z"), ("s", "b", ("s", "a", "z"))),
    (("u", "d", "c", "b", "a"), ("u", "d", ("u", "c", ("u", "b", "a")))),
    # brackets that are there stay
    (("s", ("s", "b", "a"), "b"), ("s", ("s", "b", "a"), "b")), (("s", ("s", "c", "b", "a"), "d"), ("s", ("s", "c", ("s", "b", "a")), "d")),
    (("s", "a", ("s", "b", "c", "d"), "e"), ("s", "a", ("s", ("s", "b", ("s", "c", "d")), "e"))),
    # at any place
    (("h", "a", ("f", ("s", "c", "b", "a")), ("u", "a", ("t", "c", "b", "a"), "b")),
     ("h", "a", ("f", ("s", "c", ("s", "b", "a"))), ("u", "a", ("u", ("t", "c", ("t", "b", "a")), "b")))),
]

# kind, sum, what stands there ahead of the step, what behind it
CHANGES = [
    ("turn", "s", ("s", "a", "b"), ("s", "b", "a")), ("turn", "u", ("u", ("f", "a"), ("u", "a", "b")), ("u", ("u", "a", "b"), ("f", "a"))),
    ("turn", "s", ("s", "a", "a"), ("s", "a", "a")),
    ("left", "s", ("s", "a", ("s", "b", "?x")), ("s", ("s", "a", "b"), "?x")),
    ("left", "u", ("u", ("u", "a", "b"), ("u", ("f", "a"), ("u", "a", "a"))), ("u", ("u", ("u", "a", "b"), ("f", "a")), ("u", "a", "a"))),
    ("right", "s", ("s", ("s", "a", "b"), "?x"), ("s", "a", ("s", "b", "?x"))),
    ("right", "t", ("t", ("t", ("t", "a", "b"), "z"), ("t", "o", "a")), ("t", ("t", "a", "b"), ("t", "z", ("t", "o", "a")))),
    ("drop", "s", ("s", "a", "z"), "a"), ("drop", "t", ("t", ("t", "a", "b"), "o"), ("t", "a", "b")), ("drop", "s", ("s", "z", "z"), "z"),
    ("add", "s", "a", ("s", "a", "z")), ("add", "t", "o", ("t", "o", "o")), ("add", "s", ("f", "?x"), ("s", ("f", "?x"), "z")),
    ("add", "t", ("s", "a", "b"), ("t", ("s", "a", "b"), "o")),
]

BACK = {"turn": "turn", "left": "right", "right": "left", "drop": "add", "add": "drop"}

# what stands there, and a step that can't be done there
NOT_THERE = [
    ("a", "turn", "s"), ("?x", "turn", "s"), (("f", "a"), "turn", "s"), (("g", "a", "b"), "turn", "s"), (("t", "a", "b"), "turn", "s"),
    ("a", "left", "s"), (("s", "a", "b"), "left", "s"), (("s", ("s", "a", "b"), "b"), "left", "s"), (("s", "a", ("t", "a", "b")), "left", "s"),
    (("t", "a", ("s", "a", "b")), "left", "s"), (("s", "a", ("g", "a", "b")), "left", "s"), (("t", "a", ("t", "a", "b")), "left", "s"),
    ("a", "right", "s"), (("s", "a", "b"), "right", "s"), (("s", "a", ("s", "a", "b")), "right", "s"), (("s", ("t", "a", "b"), "a"), "right", "s"),
    (("t", ("s", "a", "b"), "a"), "right", "s"), (("t", ("t", "a", "b"), "a"), "right", "s"),
    ("z", "drop", "s"), (("s", "a", "b"), "drop", "s"), (("s", "z", "a"), "drop", "s"), (("t", "a", "z"), "drop", "t"), (("t", "a", "o"), "drop", "s"),
    (("s", "a", "o"), "drop", "s"), (("u", "a", "z"), "drop", "u"), (("u", "a", "o"), "drop", "u"), (("g", "a", "z"), "drop", "s"),
    (("s", "a", ("s", "z", "z")), "drop", "s"),
    ("a", "add", "u"), (("u", "a", "b"), "add", "u"), ("z", "add", "u"),
]


class Paired(unittest.TestCase):
    def test_each(self):
        signs = Signs([(name, 0) for name in "abcdez"] + [("o", 0), ("f", 1), ("h", 3)], [("s", "z"), ("t", "o"), ("u", "")])
        for term, told in PAIRED:
            self.assertEqual(kinds(paired(signs, term)), kinds(told), term)
            self.assertEqual(kinds(paired(signs, as_lists(term))), kinds(told), term)
            self.assertEqual(paired(signs, told), told)

    def test_many_parts(self):
        told = paired(sample_signs(), ["u"] + ["a"] * 39 + ["b"])
        for depth in range(38):
            self.assertEqual(told[:2], ("u", "a"))
            told = told[2]
        self.assertEqual(told, ("u", "a", "b"))

    def test_alike_and_no_sum_of_more_than_two(self):
        for term in small_terms(["?x", "a", "z"], ["f"], ["s", "u"], 3):
            told = paired(sample_signs(), term)
            self.assertIs(alike(sample_signs(), told, term), True)
            self.assertTrue(has_two_in_each_sum(told))

    def test_what_is_no_term(self):
        for wrong in odd_things() + ["c", ("s", "a"), ("f", ("s", "a", "nix"))]:
            self.assertRaises(NoTerm, paired, sample_signs(), wrong)


def has_two_in_each_sum(term):
    if isinstance(term, str):
        return True
    return (term[0] not in "stu" or len(term) == 3) and all(has_two_in_each_sum(part) for part in term[1:])


class Done(unittest.TestCase):
    def contexts(self):
        """Places, and what puts a term at that place into a larger one."""
        return [
            ((), lambda term: term), ((0,), lambda term: ("f", term)), ((2,), lambda term: ("h", "a", ("f", "b"), term)),
            ((1,), lambda term: ("t", "a", term)), ((0, 1), lambda term: ("g", ("s", "b", term), "?x")),
            ((1, 1, 0, 0), lambda term: ("u", "a", ("u", "b", ("u", ("f", term), "a")))),
            ((0,) * 11, lambda term: within_many("f", term, 11)),
        ]

    def test_each_kind_at_each_place(self):
        for kind, name, ahead, behind in CHANGES:
            for place, context in self.contexts():
                told = done(sample_signs(), context(ahead), (kind, place, name))
                self.assertEqual(kinds(told), kinds(context(behind)), (kind, place, ahead))
                lists = done(sample_signs(), as_lists(context(ahead)), [kind, list(place), name])
                self.assertEqual(kinds(lists), kinds(context(behind)), (kind, place, ahead))

    def test_undone_again(self):
        for kind, name, ahead, behind in CHANGES:
            for place, context in self.contexts():
                self.assertEqual(done(sample_signs(), context(behind), (BACK[kind], place, name)), context(ahead))

    def test_the_term_is_paired_first(self):
        self.assertEqual(done(sample_signs(), ("s", "a", "b", "?x"), ("left", (), "s")), ("s", ("s", "a", "b"), "?x"))
        self.assertEqual(done(sample_signs(), ("s", "a", "b", "?x"), ("turn", (1,), "s")), ("s", "a", ("s", "?x", "b")))
        self.assertEqual(done(sample_signs(), ("s", "a", "b", "z"), ("drop", (1,), "s")), ("s", "a", "b"))
        self.assertEqual(done(sample_signs(), ("u", "a", "b", "a"), ("add", (1, 1), "s")), ("u", "a", ("u", "b", ("s", "a", "z"))))
        self.assertRaises(NoStep, done, sample_signs(), ("s", "a", "b", "?x"), ("add", (2,), "s"))

    def test_as_it_stands_then(self):
        self.assertEqual(done(sample_signs(), ("g", ("s", "z", "a"), "b"), ("add", (0, 0), "s")), ("g", ("s", ("s", "z", "z"), "a"), "b"))

    def test_what_can_t_be_done_there(self):
        for at, kind, name in NOT_THERE:
            for place, context in self.contexts():
                self.assertRaises(NoStep, done, sample_signs(), context(at), (kind, place, name))

    def test_places_that_are_not_there(self):
        term = ("g", ("s", "a", "b"), ("h", "a", "b", ("f", "z")))
        for place in [(2,), (-1,), (0, 2), (0, -1), (0, 0, 0), (1, 3), (1, 2, 1), (1, 2, 0, 0), (10 ** 30,), (-10 ** 30,), (0,) * 5000]:
            self.assertRaises(NoStep, done, sample_signs(), term, ("add", place, "s"))
        for leaf in ("a", "?x", "?xy12"):
            self.assertRaises(NoStep, done, sample_signs(), leaf, ("add", (0,), "s"))
            self.assertRaises(NoStep, done, sample_signs(), ("f", leaf), ("add", (0, 0), "s"))
        for place in [(), (0,), (0, 1), (1,), (1, 0), (1, 2), (1, 2, 0)]:
            done(sample_signs(), term, ("add", place, "s"))

    def test_true_and_false_are_no_places(self):
        term = ("g", ("s", "a", "b"), ("s", "a", "b"))
        for place in [(True,), (False,), (0, True), [False], [1, False]]:
            self.assertRaises(NoStep, done, sample_signs(), term, ("add", place, "s"))

    def test_what_is_no_step(self):
        term = ("s", "a", ("s", "b", "z"))
        for wrong in odd_things() + [
            ("turn", ()), ("turn", (), "s", "s"), ("turn",), ["turn", ()], ["turn", (), "s", ()], "turn", "abc", {"turn": 1, "left": 2, "add": 3},
            ("Turn", (), "s"), ("", (), "s"), ("turns", (), "s"), (0, (), "s"), (None, (), "s"), (["turn"], (), "s"), ((), "turn", "s"),
        ]:
            self.assertRaises(NoStep, done, sample_signs(), term, wrong)

    def test_things_of_other_sorts_within_a_step(self):
        term = ("s", "a", ("s", "b", "z"))
        for thing in odd_things():
            self.assertRaises(NoStep, done, sample_signs(), term, (thing, (), "s"))
            self.assertRaises(NoStep, done, sample_signs(), term, ("turn", (), thing))
            self.assertRaises(NoStep, done, sample_signs(), term, ("add", (), thing))
            if type(thing) is not int or thing not in (0, 1):
                self.assertRaises(NoStep, done, sample_signs(), term, ("add", (thing,), "s"))
            if not (isinstance(thing, (list, tuple)) and len(thing) == 0):
                self.assertRaises(NoStep, done, sample_signs(), term, ("turn", thing, "s"))

    def test_names_that_are_no_sums(self):
        for name in ["a", "z", "f", "g", "x", "S", "", "?x", "ss", "turn"]:
            for kind in BACK:
                self.assertRaises(NoStep, done, sample_signs(), ("g", "a", "z"), (kind, (), name))

    def test_names_that_begin_like_a_sum(self):
        signs = Signs([("sab", 0), ("sz", 0), ("sf", 1)], [("s", "sz"), ("sa", "")])
        self.assertEqual(done(signs, ("s", "sab", "sab", "sz"), ("drop", (1,), "s")), ("s", "sab", "sab"))
        for kind in ("turn", "left", "right", "drop"):
            self.assertRaises(NoStep, done, signs, "sab", (kind, (), "s"))
        for kind in ("left", "right"):
            self.assertRaises(NoStep, done, signs, ("s", "sab", "sab"), (kind, (), "s"))
            self.assertRaises(NoStep, done, signs, ("s", ("sa", "sz", "sz"), ("sa", "sz", "sz")), (kind, (), "s"))
        self.assertRaises(NoStep, done, signs, ("sa", "sab", "sab"), ("turn", (), "s"))

    def test_what_is_no_term_goes_first(self):
        for wrong in odd_things() + ["c", ("s", "a"), ("f", ("s", "a", "nix"))]:
            for step in [("add", (), "s"), None, ("turn", (), "nix")]:
                self.assertRaises(NoTerm, done, sample_signs(), wrong, step)


def within_many(name, term, many):
    for depth in range(many):
        term = (name, term)
    return term


if __name__ == "__main__":
    unittest.main()
