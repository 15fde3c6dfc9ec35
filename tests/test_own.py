"""What is handed in stays, what is told is its asker's own, and asked again the same is told."""

import copy
import unittest

from common import bare_signs, kept_as_it_was, kinds, sample_signs, spoil
from likefill.clashes import clash
from likefill.cover import cover
from likefill.desk import Desk
from likefill.fillings import filled, further, kept, looked_over, new_wishes
from likefill.oneside import ways
from likefill.onesum import one_sum, rest_paper
from likefill.pairs import table_of
from likefill.rows import holds, least_rows, made_of
from likefill.shares import shares
from likefill.sides import is_side, parts_under, summed
from likefill.solving import solved
from likefill.steps import done, paired
from likefill.tables import made_least, table
from likefill.terms import alike, flat, is_ahead, is_term, leaves, wishes
from likefill.texts import read, write
from likefill.through import through
from likefill.walks import walk

LISTS = ["s", ["s", "z", ["f", "?y"]], ("u", ["g", "b", "?x"], "a"), "z", ["t", "o", "o"]]
FLAT = ("s", "o", ("f", "?y"), ("u", "a", ("g", "b", "?x")))


def fresh():
    return ["s", ["s", "z", ["f", "?y"]], ("u", ["g", "b", "?x"], "a"), "z", ["t", "o", "o"]]


class HandedIn(unittest.TestCase):
    def test_is_as_it_was_behind_each_call(self):
        signs = sample_signs()
        for call in (is_term, flat, leaves, wishes, write):
            kept_as_it_was(self, lambda term: call(signs, term), fresh())
        for call in (alike, is_ahead):
            kept_as_it_was(self, lambda one, other: call(signs, one, other), fresh(), ["g", ["s", "b", "a"], "a"])

    def test_is_as_it_was_behind_a_refusal(self):
        signs = sample_signs()
        wrong = ["s", ["s", "b", "a"], ["f", "nix"]]
        for call in (flat, leaves, wishes, write):
            with self.assertRaises(ValueError):
                call(signs, wrong)
        self.assertEqual(kinds(wrong), kinds(["s", ["s", "b", "a"], ["f", "nix"]]))

    def test_may_be_changed_later(self):
        signs, term = sample_signs(), fresh()
        told_flat, told_wishes, told_text = flat(signs, term), wishes(signs, term), write(signs, term)
        term[1][2][1] = "b"
        term[2][1].clear()
        term.append("a")
        self.assertEqual(kinds(told_flat), kinds(FLAT))
        self.assertEqual(told_wishes, ["?x", "?y"])
        self.assertEqual(told_text, "s(s(z,f(?y)),u(g(b,?x),a),z,t(o,o))")

    def test_a_term_with_one_list_in_two_places(self):
        signs, part = sample_signs(), ["s", "b", "a"]
        term = ["g", part, part]
        told = flat(signs, term)
        part[1] = "?x"
        self.assertEqual(told, ("g", ("s", "a", "b"), ("s", "a", "b")))
        self.assertEqual(flat(signs, term), ("g", ("s", "?x", "a"), ("s", "?x", "a")))

    def test_signs_stay(self):
        signs = sample_signs()
        for call in (is_term, flat, leaves, wishes, write):
            call(signs, fresh())
        read(signs, "s(a,b)")
        self.assertEqual((signs.fixed(), signs.sums()), (sample_signs().fixed(), sample_signs().sums()))


class Told(unittest.TestCase):
    def test_wishes_changed_later(self):
        signs, term = sample_signs(), fresh()
        wishes(signs, term).append("?z")
        wishes(signs, term).clear()
        self.assertEqual(wishes(signs, term), ["?x", "?y"])
        self.assertEqual(kinds(term), kinds(LISTS))

    def test_terms_told_hold_no_list(self):
        signs = sample_signs()
        self.assertEqual(kinds(flat(signs, fresh())), kinds(FLAT))
        self.assertEqual(kinds(read(signs, "s(f(a),g(a,?x))")), kinds(("s", ("f", "a"), ("g", "a", "?x"))))

    def test_asked_again(self):
        signs = sample_signs()
        for call in (is_term, flat, leaves, wishes, write):
            self.assertEqual(kinds(call(signs, fresh())), kinds(call(signs, fresh())))
            self.assertEqual(kinds(call(signs, fresh())), kinds(call(sample_signs(), fresh())))
        self.assertEqual(read(signs, "s(b,a)"), read(signs, "s(b,a)"))


def filling():
    return {"?x": ["s", ["s", "b", "z"], "a"], "?y": ("f", ["g", "?x", "?y"]), "?w": ["s", "z", "?w"]}


# what takes signs first, and what takes none
WITH_SIGNS = [
    (looked_over, lambda: [filling()]), (filled, lambda: [filling(), fresh()]), (further, lambda: [filling(), {"?x": ["f", "a"], "?v": ["s", "b", "a"]}]),
    (kept, lambda: [filling(), ["?y", "?x", "?v"]]), (paired, lambda: [fresh()]), (done, lambda: [fresh(), ["turn", [1, 0], "u"]]),
    (walk, lambda: [["s", ["s", "b", "a"], ["f", ["s", "z", "a"]]], ["s", ["f", "a"], "a", ["s", "z", "b"]]]), (walk, lambda: [fresh(), ["f", "a"]]),
    (parts_under, lambda: ["s", fresh()]), (summed, lambda: ["s", [fresh(), ["f", ["s", "b", "a"]]]]), (is_side, lambda: ["s", fresh()]),
    (one_sum, lambda: ["u", ["u", "?x", "?y", ["s", "b", "a"]], ["u", "?z", ["s", "z", "b"], ["u", "a", "?x"]]]),
    (one_sum, lambda: ["s", ["s", "?x", "a"], ["s", "a", "?x"]]), (rest_paper, lambda: ["s", ["s", "?x", "?x"], ["s", ["f", ["s", "b", "a"]], "z"]]),
    (cover, lambda: [["s", ["t", "?x", "?y"], ["f", ["s", "?y", "b"]]], ["s", ["f", ["s", "b", "z", "a"]], ["u", "b", "a"]]]), (cover, lambda: [["s", "?x", "?y"], ["t", "?z", ["f", "a"]]]),
    (cover, lambda: ["a", "a"]), (ways, lambda: [["s", "?x", ["t", "?y", "a"]], ["s", ["s", "z", "?x"], ["f", "b"], "a"]]), (ways, lambda: ["a", ["s", "a", "z"]]),
    (through, lambda: [filling(), {"?x": ["s", "a", "b"], "?y": ["f", ["g", ["s", "b", "a"], "b"]]}, ["?x"]]), (through, lambda: [{"?x": ["s", "?1", "?2"]}, {"?x": ["s", "b", ["f", "a"]]}, ["?x", "?y"]]),
    (through, lambda: [{"?x": "a"}, {"?x": ["f", "a"]}, ["?x"]]), (through, lambda: [{}, {}, []]),
    (made_least, lambda: [[filling(), {"?x": ["s", "?1", ["f", "?2"]]}, {}, {"?y": ["f", ["s", "b", "a"]]}], ["?x", "?y"]]), (made_least, lambda: [[], []]), (made_least, lambda: [[{}, {"?x": "a"}], []]),
    (table, lambda: [["s", ["t", "?x", "?y"], ["f", ["s", "?y", "b"]]], ["s", ["f", ["s", "b", "z", "a"]], ["u", "b", "a"]]]), (table, lambda: [["u", "?x", "?y"], ["u", "?z", ["f", "a"]]]), (table, lambda: [["f", "a"], "a"]),
    (clash, lambda: [["g", "?x", ["f", ["s", "z", "a"]]], ["g", "b", ["f", ["s", "b", "z"]]]]), (clash, lambda: ["?x", ["s", ["f", "?x"], "a"]]), (clash, lambda: [["s", "b", "a"], "?x"]),
    (table_of, lambda: [[[["s", "?x", "?y"], ["s", "b", "a"]], (["t", "?x", "o"], ["f", "?z"])]]), (table_of, lambda: [[]]), (table_of, lambda: [[["?x", ["s", "?y", ["f", "a"]]]]]),
    (lambda signs, row: Desk(signs).take(row), lambda: ["flat s(b,z,a)"]), (lambda signs, row: Desk(signs).take(row), lambda: ["many u(?x,?y) = u(?v,?w)"]),
]

WITH_BARE_SIGNS = [
    (solved, lambda: [["s", "?x", ["f", ["s", "?y", "b"]]], ["s", ["f", ["s", "b", "a"]], ["t", "b", "a"]]]), (solved, lambda: [["s", "?x", "?y"], ["s", "?z", ["f", "a"]]]),
    (solved, lambda: [["s", "?x", "a"], ["s", "a", "?x"]]),
]

WITHOUT_SIGNS = [
    (new_wishes, lambda: [3, ["?1", "?x"]]), (holds, lambda: [[1, 2], [2], [2, 1, 2]]), (least_rows, lambda: [[1, 2], [2]]),
    (made_of, lambda: [[1, 2], [2], [2, 1, 2]]), (shares, lambda: [[1, 2], 5]),
]


class EveryCall(unittest.TestCase):
    def calls(self):
        found = list(WITHOUT_SIGNS)
        for signs, rows in ((sample_signs(), WITH_SIGNS), (bare_signs(), WITH_BARE_SIGNS)):
            found.extend([(lambda *handed, call=call, signs=signs: call(signs, *handed), make) for call, make in rows])
        return found

    def test_handed_in_stays(self):
        for call, make in self.calls():
            kept_as_it_was(self, call, *make())

    def test_handed_in_may_be_changed_later(self):
        for call, make in self.calls():
            handed = make()
            told = call(*handed)
            before = copy.deepcopy(told)
            spoil(handed)
            self.assertEqual(kinds(told), kinds(before))
            self.assertEqual(kinds(call(*make())), kinds(before))

    def test_told_may_be_changed_later(self):
        for call, make in self.calls():
            handed = make()
            told = call(*handed)
            before = copy.deepcopy(told)
            spoil(told)
            self.assertEqual(kinds(handed), kinds(make()))
            self.assertEqual(kinds(call(*handed)), kinds(before))

    def test_flat_things_handed_in_are_not_what_is_told(self):
        signs, flat_filling = sample_signs(), {"?x": "a"}
        for told in (looked_over(signs, flat_filling), further(signs, flat_filling, {}), further(signs, {}, flat_filling), kept(signs, flat_filling, ["?x"])):
            told["?y"] = "b"
            self.assertEqual(flat_filling, {"?x": "a"})


if __name__ == "__main__":
    unittest.main()
