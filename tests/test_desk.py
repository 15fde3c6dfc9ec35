"""A desk, and the rows that it takes."""

import random
import unittest

from common import bare_signs, crowded, odd_things, planted, sample_signs, set_otherwise, signs_of_sums, signs_with_noughts, too_much
from likefill.clashes import clash
from likefill.desk import Desk
from likefill.errors import NoRow, NoText, TooMuch
from likefill.oneside import ways
from likefill.tables import table
from likefill.terms import alike, flat
from likefill.texts import write

# of the sums s with nought z, t with nought o, u with none: rows, and what is told
BY_HAND = [
    ("flat a", "a"), ("flat ?x", "?x"), ("flat s(b,z,s(a,?x))", "s(?x,a,b)"), ("flat s(z,z)", "z"), ("flat g(t(o,a),f(s(z,b)))", "g(a,f(b))"), ("flat ?abcdefgh", "?abcdefgh"), ("flat u(z,z)", "u(z,z)"),
    ("alike a = a", "yes"), ("alike a = b", "no"), ("alike s(a,b) = s(b,z,a)", "yes"), ("alike u(a,b) = u(b,a)", "yes"), ("alike g(a,b) = g(b,a)", "no"), ("alike ?x = ?y", "no"), ("alike s(?x,z) = ?x", "yes"), ("alike u(a,z) = a", "no"),
    ("many a = a", "1"), ("many a = b", "0"), ("many u(?x,?y) = u(?v,?w)", "7"), ("many s(?x,?y) = s(?v,?w)", "1"), ("many s(?x,?y) = s(a,b)", "4"), ("many u(?x,?y) = u(a,b)", "2"), ("many s(t(?x,?y),a) = a", "2"),
    ("many u(?x,?x,?y,?y) = u(?v,?w,a)", "216"),
    ("ways a = a", "1"), ("ways a = b", "0"), ("ways ?x = ?x", "1"), ("ways s(?x,?y) = s(a,b)", "4"), ("ways s(a,b) = s(?x,?y)", "0"), ("ways u(?x,?y) = u(a,b,b)", "4"), ("ways u(?x,?y) = u(?x,?y)", "2"), ("ways s(?x,?y,?v) = s(a,b,z)", "9"),
    ("ways s(?x,?y) = s(a,b,f(a),f(b),?a,?b,?c,?d)", "256"),
    ("clash a = a", "none"), ("clash a = b", "signs"), ("clash f(?x) = ?x", "own"), ("clash g(?x,a) = g(f(?x),b)", "own"), ("clash g(a,?x) = g(b,f(?x))", "signs"), ("clash s(a,b) = u(a,b)", "none"), ("clash s(z,a) = t(o,b)", "signs"),
    ("clash ?x = s(?x,a)", "none"), ("clash ?x = s(f(?x),a)", "own"),
]

NO_ROWS = [
    # words that are none, too many, too few
    "", "a", "flat", "alike", "many", "ways", "clash", "=", "flat a b", "flat a = b", "alike a b", "alike a =", "alike = b", "alike a = b c", "alike a = b = c", "many a", "many a = b many", "ways a = ", "clash a", "clash a, b", "flat a flat b",
    "flatten a", "fla a", "a flat", "like a = b", "many? a = b", "read a", "alike", "take a = b", "none a = b", "flatta", "flata", "alikea = b", "alike a= b", "alike a =b", "alike a=b", "many(a = b)",
    # blanks
    " ", "  ", " flat a", "flat a ", "flat  a", " flat  a ", "alike  a = b", "alike a  = b", "alike a =  b", " alike a = b", "alike a = b ", "flat s(a, b)", "alike s(a, b) = a", "many a = b  ",
    # other signs for "=", capitals
    "alike a == b", "alike a - b", "alike a : b", "alike a is b", "alike a ~ b", "many a := b", "clash a , b", "alike a eq b", "Flat a", "FLAT a", "Alike a = b", "ALIKE a = b", "Many a = b", "MANY a = b", "Ways a = b", "Clash a = b", "mANY a = b",
    # tabs, line feeds in the place of a blank, or within a word that is none for a term
    "flat\ta", "flat\na", "\nflat a", "\tflat a", "flat\t a", "flat\n a\n", "fl\tat a", "alike\ta\t=\tb", "alike a\t= b", "alike a =\nb", "alike a\n=\nb", "alike\t a = b", "alike a =\t b", "alike a \n= b", "alike a \t b", "flat\n", "flat a\nflat b", "\n", "\t", "\n \t",
    "flat\u00a0a", "flat\u3000a", "alike a\x1c= b", "alike a =\x0b b", "flat\u200b a",
    # the same, and a blank too many
    "flat a\n ", "flat  a\n", " flat a\t", "flat a\n b", "alike a\t  = b", "alike a = b\n ",
]


class Take(unittest.TestCase):
    def test_by_hand(self):
        desk = Desk(sample_signs())
        for row, wanted in BY_HAND:
            self.assertEqual(desk.take(row), wanted, row)
            self.assertIs(type(desk.take(row)), str)

    def test_as_the_stages_tell(self):
        for signs in signs_with_noughts():
            desk = Desk(signs)
            for seed in range(30):
                chance = random.Random(seed)
                one, other = crowded(chance, signs, ["?x", "?y", "?v"]) if seed % 2 else planted(chance, signs, ["?x", "?y", "?v"])[:2]
                texts = write(signs, one), write(signs, set_otherwise(chance, signs, other))
                self.assertEqual(desk.take(f"flat {texts[1]}"), write(signs, flat(signs, other)))
                self.assertEqual(desk.take(f"alike {texts[0]} = {texts[1]}"), "yes" if alike(signs, one, other) else "no")
                self.assertEqual(desk.take(f"alike {write(signs, other)} = {texts[1]}"), "yes")
                for word, wanted in (("many", lambda: str(len(table(signs, one, other)))), ("ways", lambda: str(len(ways(signs, one, other)))), ("clash", lambda: (clash(signs, one, other) or ["none"])[0])):
                    self.assertEqual(self.told_or_refused(lambda: desk.take(f"{word} {texts[0]} = {texts[1]}")), self.told_or_refused(wanted))

    def told_or_refused(self, call):
        try:
            return call()
        except TooMuch:
            return "too much"

    def test_asked_again(self):
        desk = Desk(sample_signs())
        for row, wanted in BY_HAND + BY_HAND[::-1]:
            self.assertEqual(desk.take(row), wanted)

    def test_two_desks(self):
        one, other = Desk(sample_signs()), Desk(bare_signs())
        self.assertEqual(one.take("many s(?x,a) = a"), "1")
        self.assertEqual(other.take("many s(?x,a) = a"), "0")
        self.assertRaises(NoText, other.take, "flat z")
        self.assertRaises(NoText, one.take, "flat c")
        self.assertEqual((one.take("flat s(a,z)"), other.take("flat c")), ("a", "c"))
        self.assertEqual((one.take("ways s(?x,?y) = s(a,b)"), other.take("ways s(?x,?y) = s(a,b)")), ("4", "2"))

    def test_signs_stay(self):
        signs = sample_signs()
        desk = Desk(signs)
        for row, wanted in BY_HAND:
            desk.take(row)
        self.assertEqual((signs.fixed(), signs.sums()), (sample_signs().fixed(), sample_signs().sums()))
        signs.fixed().clear()
        self.assertEqual(desk.take("flat s(b,a)"), "s(a,b)")


class Refused(unittest.TestCase):
    def test_what_is_no_row(self):
        for signs in (sample_signs(), signs_of_sums()):
            desk = Desk(signs)
            for row in odd_things() + [["flat", "a"], ("flat", "a"), b"flat a", {"flat": "a"}] + NO_ROWS:
                with self.assertRaises(NoRow, msg=repr(row)):
                    desk.take(row)

    def test_what_is_not_written(self):
        desk = Desk(sample_signs())
        for wrong in ["nix", "A", "s(a)", "s(a,", "s(a,b))", "?", "?X", "a,b", "s()", "=", "f(a,b)", "(a)", "s(a,b)c", "g", "s[a,b]", "?abcdefghi", "\u00e4", "f(a)f(a)", ",", "%"]:
            with self.assertRaises(NoText, msg=wrong):
                desk.take(f"flat {wrong}")
            much = "u(a,a,a,a,a,a,a,a,a)"
            for word in ("alike", "many", "ways", "clash"):
                for left, right in ((wrong, "a"), ("a", wrong), (wrong, wrong), (wrong, much), (much, wrong), (wrong, "="), ("=", "a")):
                    with self.assertRaises(NoText, msg=(word, left, right)):
                        desk.take(f"{word} {left} = {right}")

    def test_signs_that_are_no_blanks(self):
        desk = Desk(sample_signs())
        for sign in ["\n", "\t", "\r", "\r\n", "\x0b", "\x0c", "\x00", "\x1c", "\x1f", "\x7f", "\x85", "\u00a0", "\u2003", "\u2028", "\u200b", "\u3000", "\ufeff"]:
            for good in ("a", "?x", "f(a)", "s(a,?x)"):
                places = range(len(good) + 1)
                for wrong in [sign] + [good[:at] + sign + good[at:] for at in places]:
                    with self.assertRaises(NoText, msg=repr(wrong)):
                        desk.take(f"flat {wrong}")
                    for word in ("alike", "many", "ways", "clash"):
                        for left, right in ((wrong, "a"), ("a", wrong), (wrong, wrong)):
                            with self.assertRaises(NoText, msg=repr((word, left, right))):
                                desk.take(f"{word} {left} = {right}")

    def test_no_row_ahead_of_no_text(self):
        desk = Desk(sample_signs())
        for row in ("flat nix nix", "alike nix nix", "alike nix == a", "like nix = a", "flat  nix", "Many nix = a", "many nix = a "):
            self.assertRaises(NoRow, desk.take, row)

    def test_what_is_too_much(self):
        signs = sample_signs()
        desk = Desk(signs)
        for one, other in too_much():
            for left, right in ((one, other), (other, one)):
                texts = write(signs, left), write(signs, right)
                for word in ("many", "clash"):
                    self.assertRaises(TooMuch, desk.take, f"{word} {texts[0]} = {texts[1]}")
                self.assertEqual(desk.take(f"alike {texts[0]} = {texts[1]}"), "no")
                self.assertEqual(desk.take(f"flat {texts[0]}"), write(signs, flat(signs, left)))

    def test_too_much_of_ways(self):
        desk = Desk(sample_signs())
        for row in ("ways u(?a,?b,?c,?d,?e) = a", "ways u(a,a,a,a,a,a,a,a,a) = a", "ways a = u(a,a,a,a,a,a,a,a,a)", "ways ?x = g(u(a,b,a,b),u(a,b,a,b,?x))"):
            self.assertRaises(TooMuch, desk.take, row)
        for row, wanted in (("ways ?x = u(?a,?b,?c,?d,?e,?f,?g,?h)", "1"), ("ways u(?x,?x,?x) = u(a,a,a)", "1"), ("ways u(?x,a) = u(a,a,a,a,a,a,a,a)", "1"), ("ways s(?x,z,z,z,z,z,z,z,z,z) = a", "1")):
            self.assertEqual(desk.take(row), wanted)


if __name__ == "__main__":
    unittest.main()
