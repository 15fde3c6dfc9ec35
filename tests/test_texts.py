import itertools
import re
import unittest

from common import as_lists, kinds, odd_things, sample_signs, small_terms
from likefill.errors import NoText
from likefill.signs import Signs
from likefill.texts import read, write

WRITTEN = [
    ("?x", "?x"), ("?abc0123", "?abc0123"), ("a", "a"), (("f", "a"), "f(a)"), (("g", "a", "?x"), "g(a,?x)"),
    (("h", "z", "o", "?1"), "h(z,o,?1)"), (("s", "b", "a"), "s(b,a)"), (("s", "z", "a", "z"), "s(z,a,z)"),
    (("s", ("s", "a", "b"), "z", ("t", "o", "o")), "s(s(a,b),z,t(o,o))"),
    (("f", ("f", ("f", "?x"))), "f(f(f(?x)))"), (("g", ("f", "a"), ("g", "b", ("f", "b"))), "g(f(a),g(b,f(b)))"),
    (("u",) + ("?x",) * 20, "u(" + ",".join(["?x"] * 20) + ")"),
]

NO_TEXTS = [
    # blanks and line feeds
    " a", "a ", "a\n", "\na", "\ta", "f( a)", "f(a )", "f (a)", "g(a, b)", "g(a ,b)", "f(a) ", " f(a)", "f(a)\n", "g(a,\nb)",
    "? x", "?x ", "a\u00a0", "a\r", "a\x00",
    # brackets
    "(a)", "f", "f(", "f()", "f(a", "fa)", "f(a))", "f((a))", "(f(a))", "f)a(", "f(a)(b)", "f(a)b", "f(a)f(a)", "a()", "a(a)",
    "?x()", "?x(a)", "()", "(", ")", "((", "))", ")(", "f[a]", "f{a}", "<f(a)>", "('f', 'a')", "s(a,b", "s(s(a,b)", "a)", "(a",
    # commas
    ",", "a,", ",a", "a,b", "f(a,)", "f(,a)", "f(,)", "g(a,,b)", "g(a;b)", "g(a b)", "g(,)", "g(a,b),", "s(a,b),c", "s(,a,b)",
    "s(a,b,)", "g(f(a),)", "g(a.b)", "f(a),",
    # capitals and other signs
    "A", "F(a)", "f(A)", "?X", "f(?X)", "S(a,b)", "\uff41", "f\uff08a\uff09", "\ud800", "'a'", '"a"',
    # unknown names, other wishes
    "c", "v(a,b)", "f(c)", "ff(a)", "aa", "abcdefg", "?", "??", "?abcdefghi", "f(?)", "?x?y", "?\u0661", "?x-", "x", "f(x)", "0",
    # other numbers of parts
    "f(a,a)", "g(a)", "g(a,a,a)", "h(a,a)", "h(a,a,a,a)", "s(a)", "u(?x)", "s()", "s", "t", "g", "h", "g(f(a,b),b)",
    "s(a,f(a,b))", "s(f(a),g(b))", "f(g(a,b),a)",
]


def all_written(most_signs):
    """All written terms of so many signs at most, over a, f/1, the sum s and the wish ?a."""
    by_length = {length: [] for length in range(most_signs + 1)}
    by_length[1].append("a")
    by_length[2].append("?a")
    for length in range(1, most_signs + 1):
        by_length[length].extend(f"f({text})" for text in by_length[max(0, length - 3)])
        by_length[length].extend(f"s({text})" for text in rows_of(by_length, length - 3, 2))
    return [text for length in sorted(by_length) for text in by_length[length]]


def rows_of(by_length, length, least):
    """All rows of so many written terms at least, with commas between, of just so many signs."""
    found = list(by_length[length]) if least <= 1 and length > 0 else []
    for first in range(1, length - 1):
        for rest in rows_of(by_length, length - first - 1, least - 1):
            found.extend(f"{text},{rest}" for text in by_length[first])
    return found


class Written(unittest.TestCase):
    def test_as_it_stands(self):
        for term, text in WRITTEN:
            self.assertEqual(write(sample_signs(), term), text)
            self.assertEqual(write(sample_signs(), as_lists(term)), text)

    def test_longer_names(self):
        signs = Signs([("nil", 0), ("abcdef", 2)], [("plus", "nil")])
        term = ("plus", ("abcdef", "nil", "?long1234"), "nil")
        self.assertEqual(write(signs, term), "plus(abcdef(nil,?long1234),nil)")
        self.assertEqual(read(signs, "plus(abcdef(nil,?long1234),nil)"), term)


class Read(unittest.TestCase):
    def test_as_it_stands(self):
        for term, text in WRITTEN:
            self.assertEqual(kinds(read(sample_signs(), text)), kinds(term))

    def test_the_way_back(self):
        signs = sample_signs()
        for term in small_terms(["?x", "a", "z"], ["f"], ["s", "u"], 3):
            self.assertEqual(kinds(read(signs, write(signs, term))), kinds(term))

    def test_just_what_is_so_written(self):
        signs = Signs([("a", 0), ("f", 1)], [("s", "")])
        readable = []
        for length in range(7):
            for signs_of_text in itertools.product("af?s(),", repeat=length):
                text = "".join(signs_of_text)
                try:
                    term = read(signs, text)
                except NoText:
                    continue
                self.assertEqual(write(signs, term), text)
                readable.append(text)
        told = [text for text in readable if all(wish == "?a" for wish in re.findall("[?][a-z]+", text))]
        self.assertEqual(sorted(told), sorted(all_written(6)))

    def test_refused_texts(self):
        for text in NO_TEXTS:
            with self.assertRaises(NoText, msg=repr(text)):
                read(sample_signs(), text)

    def test_refused_things(self):
        things = odd_things() + [term for term, text in WRITTEN if not isinstance(term, str)] + [["a"], ("a",), b"f(a)"]
        for thing in things:
            with self.assertRaises(NoText, msg=repr(thing)[:60]):
                read(sample_signs(), thing)

    def test_long_texts(self):
        for text in ("f(" * 100000, ")" * 100000, "f(" * 100000 + "a", "(" * 50000 + ")" * 50000, "a" * 100000,
                     "?" * 100000, "s(a," * 100000, "," * 100000, "f(" * 50 + "a" + ")" * 51):
            with self.assertRaises(NoText):
                read(sample_signs(), text)

    def test_deep_texts(self):
        text = "f(" * 150 + "s(a,?x)" + ")" * 150
        self.assertEqual(write(sample_signs(), read(sample_signs(), text)), text)

    def test_by_the_signs(self):
        text = "s(a,a)"
        self.assertEqual(read(Signs([("a", 0), ("s", 2)], []), text), ("s", "a", "a"))
        self.assertEqual(read(Signs([("a", 0)], [("s", "a")]), text), ("s", "a", "a"))
        for signs in (Signs([("a", 0), ("s", 1)], []), Signs([("a", 0), ("s", 3)], []), Signs([("a", 0)], []),
                      Signs([("b", 0)], [("s", "")]), Signs([("b", 0), ("a", 1)], [("s", "")])):
            with self.assertRaises(NoText):
                read(signs, text)


if __name__ == "__main__":
    unittest.main()
