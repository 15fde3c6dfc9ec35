"""Flat forms, being alike, and the order of flat terms."""

import itertools
import unittest

from common import as_lists, kinds, sample_signs, small_terms
from likefill.signs import Signs
from likefill.terms import alike, flat, is_ahead

FLAT_FORMS = [
    # texts, and fixed signs: as they are, parts in their place
    ("?x", "?x"), ("a", "a"), ("z", "z"), (("f", "z"), ("f", "z")), (("g", "b", "a"), ("g", "b", "a")),
    (("h", "z", "a", "?x"), ("h", "z", "a", "?x")),
    # parts in order
    (("s", "b", "a"), ("s", "a", "b")), (("u", "a", "?y", "?x", "a"), ("u", "?x", "?y", "a", "a")),
    (("g", ("s", "b", "a"), ("u", "b", "a")), ("g", ("s", "a", "b"), ("u", "a", "b"))),
    # sums within sums of the same sign give their parts, those of another one don't
    (("s", ("s", "b", "a"), "a"), ("s", "a", "a", "b")), (("s", "b", ("s", "a", ("s", "b", "a"))), ("s", "a", "a", "b", "b")),
    (("u", ("u", "a", "b"), ("u", "a", "b")), ("u", "a", "a", "b", "b")),
    (("s", ("u", "b", "a"), "a"), ("s", "a", ("u", "a", "b"))),
    (("s", ("f", ("s", "b", "a")), "a"), ("s", "a", ("f", ("s", "a", "b")))),
    # noughts at any place
    (("s", "z", "a"), "a"), (("s", "a", "z"), "a"), (("s", "a", "z", "b"), ("s", "a", "b")),
    (("s", "z", "z", ("f", "z")), ("f", "z")), (("s", "?x", ("s", "z", "a"), "z"), ("s", "?x", "a")),
    # another sum's nought, and the nought of none, stay
    (("t", "z", "a"), ("t", "a", "z")), (("u", "z", "o"), ("u", "o", "z")), (("s", "o", "a"), ("s", "a", "o")),
    # one part left, and that a sum
    (("s", "z", ("s", "a", "b")), ("s", "a", "b")), (("s", ("t", "b", "a"), "z"), ("t", "a", "b")),
    (("s", ("t", ("s", "b", "a"), "o"), "b"), ("s", "a", "b", "b")),
    # none left
    (("s", "z", "z"), "z"), (("s", "z", ("s", "z", "z"), "z"), "z"), (("t", "o", "o", "o"), "o"),
    # a nought that comes only of what is within
    (("s", "a", ("s", "z", "z")), "a"), (("s", "a", ("t", "z", "o")), "a"), (("s", ("t", "o", "z"), ("t", "z", "o")), "z"),
    (("t", ("s", "z", "z"), "o"), "z"), (("s", ("t", ("s", "z", "z"), "o"), "?x"), "?x"),
    (("f", ("s", "z", ("s", "z", "z"))), ("f", "z")), (("t", ("s", "o", "z"), "a"), "a"),
]


def some_terms():
    return small_terms(["?x", "a", "z"], ["f"], ["s", "u"], 3)


class Flat(unittest.TestCase):
    def test_each_form(self):
        for term, told in FLAT_FORMS:
            self.assertEqual(kinds(flat(sample_signs(), term)), kinds(told), term)
            self.assertEqual(kinds(flat(sample_signs(), as_lists(term))), kinds(told), term)

    def test_the_flat_form_of_a_flat_form(self):
        for term in [told for term, told in FLAT_FORMS] + some_terms():
            once = flat(sample_signs(), term)
            self.assertEqual(flat(sample_signs(), once), once)

    def test_every_order_of_parts(self):
        parts = ["?b", "?a", "a", "b", ("f", "a"), ("g", "a", "a")]
        for row in itertools.permutations(parts):
            self.assertEqual(flat(sample_signs(), ("s",) + row), ("s", "?a", "?b", "a", "b", ("f", "a"), ("g", "a", "a")))

    def test_deep_terms(self):
        term, many = "a", 150
        for depth in range(many):
            term = ("s", term, "z", "b")
        self.assertEqual(flat(sample_signs(), term), ("s", "a") + ("b",) * many)
        term = "?x"
        for depth in range(many):
            term = ["f", term]
        self.assertEqual(flat(sample_signs(), ("s", term, "z")), flat(sample_signs(), term))
        self.assertIs(alike(sample_signs(), ("s", term, "z"), term), True)
        self.assertIs(is_ahead(sample_signs(), term, ["f", term]), True)
        self.assertIs(is_ahead(sample_signs(), ["f", term], term), False)


class Alike(unittest.TestCase):
    def test_told_forms(self):
        for term, told in FLAT_FORMS:
            self.assertIs(alike(sample_signs(), term, told), True)
            self.assertIs(alike(sample_signs(), as_lists(told), term), True)

    def test_not_alike(self):
        for one, other in [("a", "b"), ("?x", "?y"), ("?x", "a"), (("f", "a"), "a"), (("g", "a", "b"), ("g", "b", "a")),
                           (("s", "a", "a"), "a"), (("s", "a", "a"), ("s", "a", "a", "a")), (("s", "a", "b"), ("u", "a", "b")),
                           (("u", "a", "z"), "a"), (("t", "a", "z"), "a"), (("s", "z", "z"), "o")]:
            self.assertIs(alike(sample_signs(), one, other), False)
            self.assertIs(alike(sample_signs(), other, one), False)

    def test_alike_just_where_single_steps_lead_from_one_to_the_other(self):
        terms = [term for term in small_terms(["?x", "a", "z"], [], ["s", "u"], 4) if is_two_part(term)]
        groups = {term: [term] for term in terms}
        for term in terms:
            for stepped in steps_from(term, {"s": "z", "u": ""}):
                join(groups, term, stepped)
        flat_of_group = {}
        for term in terms:
            told = flat(sample_signs(), term)
            self.assertEqual(flat_of_group.setdefault(id(groups[term]), told), told)
        self.assertEqual(len(set(flat_of_group.values())), len(flat_of_group))


def is_two_part(term):
    return isinstance(term, str) or len(term) == 3 and all(is_two_part(part) for part in term[1:])


def steps_from(term, noughts):
    """All that single steps make of a term whose sums have two parts, none with more leaves than it."""
    found = []
    if isinstance(term, str):
        return found
    name, one, other = term
    found.append((name, other, one))
    if other[0] == name and not isinstance(other, str):
        found.append((name, (name, one, other[1]), other[2]))
    if other == noughts[name]:
        found.append(one)
    found.extend((name, stepped, other) for stepped in steps_from(one, noughts))
    found.extend((name, one, stepped) for stepped in steps_from(other, noughts))
    return found


def join(groups, one, other):
    if groups[one] is not groups[other]:
        small, large = sorted((groups[one], groups[other]), key=len)
        large.extend(small)
        for term in small:
            groups[term] = large


class Ahead(unittest.TestCase):
    def test_each_rule(self):
        for one, other in [
            # wishes ahead of signs without parts, these ahead of tuples
            ("?z", "a"), ("?z", ("f", "?a")), ("z", ("f", "?a")), ("o", ("f", "a")),
            # wishes as texts are
            ("?1", "?a"), ("?a", "?b"), ("?a", "?aa"), ("?10", "?2"), ("?aa", "?b"), ("?9", "?a"),
            # signs without parts as texts are
            ("a", "b"), ("a", "o"), ("o", "z"),
            # tuples: by the name
            (("f", "b"), ("g", "a", "a")), (("h", "b", "b", "b"), ("s", "?a", "?a")), (("s", "b", "b", "b"), ("t", "?x", "?x")),
            (("g", "b", "b"), ("h", "?a", "?a", "?a")),
            # of the same name by how many parts
            (("s", "b", "b"), ("s", "?x", "?x", "?x")), (("u", ("f", "a"), ("f", "b")), ("u", "?x", "a", "b")),
            # of as many by the first part that differs
            (("f", "?x"), ("f", "a")), (("g", "a", "b"), ("g", "b", "a")), (("g", "a", "a"), ("g", "a", "b")),
            (("h", "a", "?x", ("f", "b")), ("h", "a", "a", "a")), (("s", "?x", "b"), ("s", "a", "a")),
            (("g", ("f", "a"), ("h", "b", "b", "b")), ("g", ("f", "b"), "?x")),
            (("g", ("s", "b", "b"), "b"), ("g", ("s", "a", "a", "a"), "a")),
        ]:
            self.assertIs(is_ahead(sample_signs(), one, other), True, (one, other))
            self.assertIs(is_ahead(sample_signs(), other, one), False, (one, other))
            self.assertIs(is_ahead(sample_signs(), as_lists(one), as_lists(other)), True, (one, other))

    def test_longer_names_as_texts_are(self):
        signs = Signs([("b", 0), ("aa", 0), ("ab", 1), ("c", 1)], [("az", ""), ("d", "")])
        row = ["aa", "b", ("ab", "b"), ("az", "b", "b"), ("c", "aa"), ("d", "aa", "aa")]
        for one, other in itertools.product(range(len(row)), repeat=2):
            self.assertIs(is_ahead(signs, row[one], row[other]), one < other)

    def test_none_is_ahead_of_what_is_alike(self):
        for term, told in FLAT_FORMS:
            self.assertIs(is_ahead(sample_signs(), term, told), False)
            self.assertIs(is_ahead(sample_signs(), told, term), False)

    def test_of_the_flat_forms(self):
        for one, other in [(("s", "a", "z"), "b"), (("s", "z", "?x"), "a"), ("b", ("t", ("f", "a"), "o")),
                           (("s", "b", "?x"), ("s", "a", "b")), (("s", "b", "b", "z"), ("s", "?x", "?x", "?x"))]:
            self.assertIs(is_ahead(sample_signs(), one, other), True, (one, other))
            self.assertIs(is_ahead(sample_signs(), other, one), False, (one, other))

    def test_as_the_rules_say_one_after_another(self):
        terms = sorted({flat(sample_signs(), term) for term in small_terms(["?x", "?1", "a", "z"], ["f"], ["s", "u"], 2)}, key=str)
        terms += [("s", "?x", ("f", "a"), ("u", "a", "b")), ("s", "?x", ("f", "a"), ("u", "a", "a", "a")), ("g", "a", "b")]
        for one, other in itertools.product(terms, repeat=2):
            self.assertIs(is_ahead(sample_signs(), one, other), ahead_by_the_rules(one, other), (one, other))


def ahead_by_the_rules(one, other):
    """The order as the document says it, rule by rule."""
    def sort_of(term):
        return 2 if isinstance(term, tuple) else 0 if term.startswith("?") else 1
    if sort_of(one) != sort_of(other):
        return sort_of(one) < sort_of(other)
    if isinstance(one, str):
        return one < other
    if one[0] != other[0]:
        return one[0] < other[0]
    if len(one) != len(other):
        return len(one) < len(other)
    for part, other_part in zip(one, other):
        if part != other_part:
            return ahead_by_the_rules(part, other_part)
    return False


if __name__ == "__main__":
    unittest.main()
