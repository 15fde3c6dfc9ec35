"""Fillings looked over, put in, put together, kept to some wishes; new wishes."""

import itertools
import unittest

from common import Prickly, as_lists, kinds, list_in_itself, odd_things, sample_signs, small_terms
from likefill.errors import NoFilling, NoTerm
from likefill.fillings import filled, further, kept, looked_over, new_wishes
from likefill.terms import flat

LOOKED_OVER = [
    # none, one, and terms that are flat already
    ({}, {}), ({"?x": "a"}, {"?x": "a"}), ({"?x": "?y", "?y": "?x"}, {"?x": "?y", "?y": "?x"}),
    # filled by themselves, plainly and only once flat
    ({"?x": "?x"}, {}), ({"?x": ("s", "z", "?x")}, {}), ({"?x": ("s", ("t", "?x", "o"), ("s", "z", "z")), "?y": "b"}, {"?y": "b"}),
    ({"?x": ("u", "?x", "z")}, {"?x": ("u", "?x", "z")}), ({"?x": ("f", "?x")}, {"?x": ("f", "?x")}),
    # terms made flat
    ({"?x": ("s", "b", ("s", "a", "z"))}, {"?x": ("s", "a", "b")}), ({"?1": ("s", "z", "?2"), "?2": ("s", "z", "?2")}, {"?1": "?2"}),
]

NO_FILLINGS = [
    {"x": "a"}, {"?": "a"}, {"?X": "a"}, {"?123456789": "a"}, {"a": "a"}, {"": "a"}, {None: "a"}, {0: "a"}, {True: "a"}, {b"?x": "a"},
    {("?x",): "a"}, {object(): "a"}, {"?x": "a", "y": "b"}, {"?x": None}, {"?x": "c"}, {"?x": "f"}, {"?x": ("f",)}, {"?x": ("s", "a")},
    {"?x": ("g", "a", ("f", ("s", "a", "nix")))}, {"?x": "a", "?y": ("h", "a", "a", ("h", "a", "a", True))}, {"?x": Prickly()},
    {"?x": list_in_itself()}, {"?x": []}, {"?x": {}}, {"?x": {"?x": "a"}}, {"?x": 1}, {"?x": b"a"}, [("?x", "a")], (("?x", "a"),), "?x",
]


def twelve():
    return {"?" + sign: ("s", "b", "a", "?" + sign) for sign in "abcdefghijkl"}


def small_fillings():
    """Fillings of ?x, ?y and ?1 by all sorts of terms, none to three wishes."""
    terms = [None, "?x", "?y", "z", ("s", "?y", "?x"), ("f", "?1")]
    rows = itertools.product(terms, repeat=3)
    return [{wish: term for wish, term in zip(("?x", "?y", "?1"), row) if term is not None} for row in rows]


def some_terms():
    return small_terms(["?x", "?y", "?1", "a"], ["f"], ["s", "u"], 2) + [("h", "?x", ("s", "?y", "?1", "z"), ("u", "?w", "?x", "?x"))]


class LookedOver(unittest.TestCase):
    def test_each(self):
        for filling, told in LOOKED_OVER:
            self.assertEqual(kinds(looked_over(sample_signs(), filling)), kinds(told), filling)
            lists = {wish: as_lists(term) for wish, term in filling.items()}
            self.assertEqual(kinds(looked_over(sample_signs(), lists)), kinds(told), filling)

    def test_twelve_wishes(self):
        told = looked_over(sample_signs(), twelve())
        self.assertEqual(told, {wish: ("s", wish, "a", "b") for wish in twelve()})
        self.assertEqual(looked_over(sample_signs(), told), told)

    def test_looked_over_twice(self):
        for filling in small_fillings():
            once = looked_over(sample_signs(), filling)
            self.assertEqual(looked_over(sample_signs(), once), once)


class Filled(unittest.TestCase):
    def test_each(self):
        for filling, term, told in [
            ({}, ("s", "b", "?x"), ("s", "?x", "b")), ({"?x": "a"}, "?x", "a"), ({"?x": "a"}, "?y", "?y"), ({"?x": "a"}, "b", "b"),
            # all at once: what is put in is not filled again
            ({"?x": "?y", "?y": "?x"}, ("g", "?x", "?y"), ("g", "?y", "?x")),
            ({"?x": ("f", "?x")}, ("g", "?x", ("f", "?x")), ("g", ("f", "?x"), ("f", ("f", "?x")))),
            ({"?x": ("s", "?y", "?y"), "?y": "a"}, ("s", "?x", "?y"), ("s", "?y", "?y", "a")),
            # flat then: opened, ordered anew, noughts gone
            ({"?x": ("s", "b", "a")}, ("s", "?x", "?y", ("s", "?x", "a")), ("s", "?y", "a", "a", "a", "b", "b")),
            ({"?x": "z"}, ("s", "?x", "?y"), "?y"), ({"?x": "z", "?y": "z"}, ("s", "?x", "?y"), "z"), ({"?x": "z"}, ("u", "?x", "?x"), ("u", "z", "z")),
            ({"?x": ("t", "o", ("s", "z", "z"))}, ("f", ("s", "?x", "?x", "a")), ("f", "a")),
            ({"?a": ("f", "a")}, ("s", "?a", "b"), ("s", "b", ("f", "a"))),
            # wishes that are new ones by their looks are wishes like others
            ({"?1": "?2", "?2": "?1"}, ("u", "?1", "?2", "?2"), ("u", "?1", "?1", "?2")), ({"?1": ("f", "?2")}, ("s", "?1", "?2"), ("s", "?2", ("f", "?2"))),
            # filled by themselves
            ({"?x": ("s", "?x", "z")}, ("u", "?x", "a"), ("u", "?x", "a")),
        ]:
            self.assertEqual(kinds(filled(sample_signs(), filling, term)), kinds(told), (filling, term))
            lists = {wish: as_lists(each) for wish, each in filling.items()}
            self.assertEqual(kinds(filled(sample_signs(), lists, as_lists(term))), kinds(told), (filling, term))

    def test_lists_and_tuples_mixed(self):
        filling = {"?x": ["s", ("f", ["g", "b", "a"]), "a"]}
        self.assertEqual(kinds(filled(sample_signs(), filling, ["h", ("f", "?x"), "?x", ["u", "b", ("f", "a")]])),
                         kinds(("h", ("f", ("s", "a", ("f", ("g", "b", "a")))), ("s", "a", ("f", ("g", "b", "a"))), ("u", "b", ("f", "a")))))

    def test_twelve_wishes(self):
        term = ("s",) + tuple(twelve())
        self.assertEqual(filled(sample_signs(), twelve(), term), ("s",) + tuple(twelve()) + ("a",) * 12 + ("b",) * 12)

    def test_by_the_filling_looked_over(self):
        signs, terms = sample_signs(), some_terms()[::5]
        for filling in small_fillings():
            looked = looked_over(signs, filling)
            for term in terms:
                self.assertEqual(filled(signs, filling, term), filled(signs, looked, flat(signs, term)))


class Further(unittest.TestCase):
    def test_each(self):
        for one, other, told in [
            ({}, {}, {}), ({"?x": "a"}, {}, {"?x": "a"}), ({}, {"?x": "a"}, {"?x": "a"}), ({"?x": "?y"}, {"?y": "a"}, {"?x": "a", "?y": "a"}),
            ({"?x": "a"}, {"?x": "b"}, {"?x": "a"}), ({"?x": "?y"}, {"?y": "?x"}, {"?y": "?x"}), ({"?x": "?y", "?y": "?x"}, {"?x": "?y", "?y": "?x"}, {}),
            ({"?x": "?x"}, {"?x": "a"}, {"?x": "a"}), ({"?x": ("s", "?x", "?y")}, {"?y": "z"}, {"?y": "z"}),
            ({"?x": ("s", "?1", "?2")}, {"?1": ("s", "b", "a"), "?2": "z"}, {"?x": ("s", "a", "b"), "?1": ("s", "a", "b"), "?2": "z"}),
        ]:
            self.assertEqual(kinds(further(sample_signs(), one, other)), kinds(told), (one, other))

    def test_filled_by_it_is_filled_by_the_one_and_then_by_the_other(self):
        signs, terms = sample_signs(), some_terms()[::9]
        for one, other in itertools.product(small_fillings()[::5], small_fillings()[::7]):
            both = further(signs, one, other)
            self.assertEqual(looked_over(signs, both), both)
            for term in ["?x", "?y", "?1"] + terms:
                self.assertEqual(filled(signs, both, term), filled(signs, other, filled(signs, one, term)), (one, other, term))

    def test_three_put_together_either_way(self):
        signs, fillings = sample_signs(), small_fillings()[::11]
        for one, two, three in itertools.product(fillings, repeat=3):
            self.assertEqual(further(signs, further(signs, one, two), three), further(signs, one, further(signs, two, three)))

    def test_with_the_empty_filling_on_either_side(self):
        for filling in small_fillings() + [twelve()]:
            told = looked_over(sample_signs(), filling)
            self.assertEqual(further(sample_signs(), filling, {}), told)
            self.assertEqual(further(sample_signs(), {}, filling), told)


class Kept(unittest.TestCase):
    def test_each(self):
        filling = {"?x": ("s", "b", ["s", "z", "a"]), "?y": "?x", "?z": ("s", "?z", "z"), "?1": "?2"}
        told = {"?x": ("s", "a", "b"), "?y": "?x", "?1": "?2"}
        for some in ([], ["?x"], ["?x", "?x"], ["?y", "?x", "?y"], ["?z"], ["?w"], ["?w", "?1", "?2"], ["?x", "?y", "?z", "?1"]):
            wanted = {wish: term for wish, term in told.items() if wish in some}
            self.assertEqual(kinds(kept(sample_signs(), filling, some)), kinds(wanted), some)
            self.assertEqual(kinds(kept(sample_signs(), filling, tuple(some))), kinds(wanted), some)

    def test_of_the_empty_filling_and_of_twelve(self):
        self.assertEqual(kept(sample_signs(), {}, ["?x"]), {})
        self.assertEqual(kept(sample_signs(), twelve(), ["?l", "?x"]), {"?l": ("s", "?l", "a", "b")})
        self.assertEqual(kept(sample_signs(), twelve(), list(twelve())), looked_over(sample_signs(), twelve()))


class NewWishes(unittest.TestCase):
    def test_so_many(self):
        self.assertEqual(new_wishes(0, []), [])
        self.assertEqual(new_wishes(0, ["?1"]), [])
        self.assertEqual(new_wishes(3, []), ["?1", "?2", "?3"])
        self.assertEqual(new_wishes(40, ()), [f"?{number}" for number in range(1, 41)])

    def test_those_among_some_left_out(self):
        self.assertEqual(new_wishes(3, ["?2", "?x", "?4", "?2"]), ["?1", "?3", "?5"])
        self.assertEqual(new_wishes(3, ("?1", "?2", "?3")), ["?4", "?5", "?6"])
        self.assertEqual(new_wishes(40, ["?1", "?40"]), [f"?{number}" for number in range(2, 43) if number != 40])

    def test_wishes_that_look_nearly_new(self):
        self.assertEqual(new_wishes(3, ["?01", "?1a", "?a1", "?001", "?x", "?0", "?12", "?20"]), ["?1", "?2", "?3"])


class Refused(unittest.TestCase):
    def all_wrong(self):
        return NO_FILLINGS + [thing for thing in odd_things() if not (isinstance(thing, dict) and not thing)]

    def test_what_is_no_filling(self):
        signs = sample_signs()
        for wrong in self.all_wrong():
            for call in (lambda: looked_over(signs, wrong), lambda: filled(signs, wrong, "a"), lambda: kept(signs, wrong, []),
                         lambda: further(signs, wrong, {}), lambda: further(signs, {}, wrong)):
                self.assertRaises(NoFilling, call)

    def test_ahead_of_what_is_no_term(self):
        signs = sample_signs()
        for wrong in self.all_wrong():
            self.assertRaises(NoFilling, filled, signs, wrong, "nix")
            self.assertRaises(NoFilling, filled, signs, wrong, None)

    def test_what_is_no_term(self):
        for wrong in odd_things() + ["c", "f", ("f",), ("s", "a"), ("f", "a", "a"), ("g", "a", ("f", "nix")), {"?x": "a"}]:
            self.assertRaises(NoTerm, filled, sample_signs(), {"?x": "a"}, wrong)


if __name__ == "__main__":
    unittest.main()
