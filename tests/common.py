"""What several tests need: sample signs, things that are nothing at all, small terms by the hundred."""

import copy
import itertools

from likefill.fillings import filled, looked_over, new_wishes
from likefill.signs import Signs
from likefill.terms import flat, flat_of_parts, is_wish, put_in, wishes


# of the sums s with nought z, t with nought o, u with none: two terms, and one filling that covers them, or None
ONE_FILLING_OR_NONE = [
    # fixed signs alone
    ("a", "a", {}), ("a", "b", None), ("?x", "?x", {}), ("?x", "z", {"?x": "z"}), ("z", "o", None), ("z", "z", {}), (("f", "?x"), ("f", "z"), {"?x": "z"}), (("f", "?x"), "z", None),
    (("g", "?x", "?y"), ("g", ("f", "?y"), "a"), {"?x": ("f", "a"), "?y": "a"}), ("?x", ("f", "?x"), None), (("g", "?x", "?x"), ("g", "z", "o"), None),
    # wishes that become the nought
    (("s", "?x", "a"), "a", {"?x": "z"}), (("s", "?x", "?y"), "z", {"?x": "z", "?y": "z"}), (("s", "?x", "?x"), "z", {"?x": "z"}), (("s", "?x", "?x"), "a", None),
    (("s", "?x", "?x", "a"), ("s", "?x", "a"), {"?x": "z"}), (("s", "?x", "?y", "a"), ("s", "?x", "a"), {"?y": "z"}), (("u", "?x", "a"), "a", None), (("u", "?x", "a"), "n", None),
    (("s", "?x", ("f", "?x")), ("f", "z"), {"?x": "z"}), (("s", "?x", ("f", "?x")), ("f", "?x"), {"?x": "z"}), (("s", "?x", "a"), "z", None), (("t", "?x", "a"), "z", None),
    (("g", ("s", "?x", "?y"), "?x"), ("g", "a", "z"), {"?x": "z", "?y": "a"}), (("s", "?x", "a"), ("s", "?x", "b"), None), (("s", "z", "?x"), "a", {"?x": "a"}),
    # one wish for all, where there are noughts
    (("s", "?x", "a"), ("s", "?y", "b"), {"?x": ("s", "?1", "b"), "?y": ("s", "?1", "a")}),
    (("s", "?x", "?y"), "?x", {"?y": "z"}), (("s", "?x", "?x", "?y"), ("s", "?x", "?x"), {"?y": "z"}), (("s", "?x", "?y"), ("s", "?x", "?v"), {"?y": "?v"}),
    (("s", "?x", "?y"), ("s", "?v", "?w"), {"?x": ("s", "?1", "?2"), "?y": ("s", "?3", "?4"), "?v": ("s", "?1", "?3"), "?w": ("s", "?2", "?4")}),
    (("s", "?x", "?x"), ("s", "?y", "?v"), {"?x": ("s", "?1", "?2", "?3"), "?y": ("s", "?1", "?1", "?2"), "?v": ("s", "?2", "?3", "?3")}),
    # a wish within itself
    ("?x", ("s", "?x", "?y"), {"?y": "z"}), ("?x", ("s", "?x", "a"), None), ("?x", ("s", "?x", ("f", "?x")), None), ("?x", ("u", "?x", "?y"), None), ("?x", ("s", "?y", ("f", "?x")), None),
    ("?x", ("s", ("t", "?x", "a"), "?y"), None), (("g", "?x", "?y"), ("g", ("s", "?y", "a"), ("s", "?x", "b")), None), (("g", "?x", "?y"), ("g", ("s", "?y", "?v"), ("s", "?x", "?v")), {"?x": "?y", "?v": "z"}),
    (("g", "?x", "?y"), ("g", ("s", "?y", "?v"), ("t", "?x", "a")), None), (("u", "?x", "?y"), ("u", ("s", "?x", "a"), "?y"), None), ("?x", ("s", ("t", "?x", "?y"), "a"), None),
    # a sum within another sum, falling away as its wishes do
    (("t", "?x", ("s", "?y", "a")), "a", {"?x": "o", "?y": "z"}), (("s", "a", "?x"), ("t", "a", "?y"), {"?x": "z", "?y": "o"}), (("s", "?x", "a"), ("t", "?y", "b"), None),
    (("s", "?x", "?y"), ("t", "?x", "?y"), None), (("s", "?x", "?x"), ("t", "?y", "?y"), None), (("u", ("s", "?x", "a"), "b"), ("u", "a", ("t", "?y", "b")), {"?x": "z", "?y": "o"}),
    (("u", ("s", "?x", "?y"), "?x"), ("u", "z", "z"), {"?x": "z", "?y": "z"}), (("s", ("t", "?x", "?x"), "a"), ("s", "a", ("t", "a", "a")), {"?x": "a"}),
    (("s", ("t", "?x", "?x"), "?y"), "z", None), (("s", ("t", "?x", "?x"), "?y"), ("s", "o", "a"), {"?x": "o", "?y": "a"}), (("s", ("t", "?x", "b"), "a"), ("s", "a", "b"), {"?x": "o"}),
]

# of the same sums: two terms with several fillings
SEVERAL_FILLINGS = [
    (("s", ("t", "?x", "?y"), "a"), "a"), (("s", "?x", "a"), ("t", "?y", "?v")), (("s", ("t", "?x", "?y"), "?v"), ("s", "a", "b")), (("s", "?x", "?y"), ("s", "a", "b")),
    (("t", ("s", "?x", "?y"), ("s", "?y", "a")), ("t", "a", "?v")), (("t", ("s", "?x", "a"), "?y"), ("s", ("t", "?y", "a"), "?x")),
    (("s", "?x", ("t", "?x", "?y")), ("s", "a", "?v")), (("g", ("s", "?x", "?y"), ("t", "?x", "?w")), ("g", "?v", "?v")), (("u", "?x", "?y"), ("u", ("s", "?v", "a"), ("t", "?v", "a"))),
    (("s", "?x", "?x", ("f", "?y")), ("s", ("f", "a"), "?y", "?v")), (("t", "?x", ("s", "?x", "?y")), ("t", "?v", "a")), (("s", ("t", "?x", ("s", "?y", "?v")), "a"), ("s", "a", "a")),
    (("g", "?x", "?y"), ("g", ("s", "?y", "?v"), ("t", "?x", "?w"))), ("?x", ("s", ("t", "?x", "?y"), "?v")), (("s", ("t", "?x", "?y"), "?x"), "?x"),
]


def sample_signs():
    """Fixed a, b, z, o, f/1, g/2, h/3; the sums s (nought z), t (nought o) and u (none)."""
    return Signs(
        [("a", 0), ("b", 0), ("z", 0), ("o", 0), ("f", 1), ("g", 2), ("h", 3)],
        [("s", "z"), ("t", "o"), ("u", "")],
    )


def bare_signs():
    """Fixed a, b, c, f/1, g/2; the sums s and t, both without a nought."""
    return Signs([("a", 0), ("b", 0), ("c", 0), ("f", 1), ("g", 2)], [("s", ""), ("t", "")])


def signs_of_sums(*sums):
    """Fixed a, b, z, o, n, f/1, g/2, and these sums."""
    return Signs([("a", 0), ("b", 0), ("z", 0), ("o", 0), ("n", 0), ("f", 1), ("g", 2)], sums)


def signs_with_noughts():
    """Signs of two and three sums: none has a nought, one, two, all."""
    return [
        signs_of_sums(("s", ""), ("t", "")), signs_of_sums(("s", "z"), ("t", "")), signs_of_sums(("s", ""), ("t", "o")), signs_of_sums(("s", "z"), ("t", "o")),
        signs_of_sums(("s", "z"), ("t", "o"), ("u", "")), signs_of_sums(("s", "z"), ("t", "o"), ("u", "n")),
    ]


class Prickly:
    """A thing that can't be compared, hashed, measured, walked, or taken for true or false."""

    __hash__ = None

    def refuse(self, *args):
        raise RuntimeError("nobody may ask this")

    __eq__ = __ne__ = __lt__ = __len__ = __iter__ = __getitem__ = __bool__ = __contains__ = __str__ = refuse

    def __repr__(self):
        return "Prickly()"


def list_in_itself():
    thing = ["s", "a"]
    thing.append(thing)
    return thing


def list_twice_in_itself():
    thing = ["g"]
    thing.extend([thing, thing])
    return thing


def odd_things():
    """Things that are no signs, no term, no written term, whoever is asked."""
    return [
        None, True, False, 0, 1, -1, 10 ** 30, "", " ", "?", "\n", "\ud800", b"", b"a", b"?x", bytearray(b"a"),
        [], (), [[]], ((),), [()], {}, {"a": 0}, {"a"}, set(), frozenset("a"), range(3), object(), object, str, len,
        iter("a"), (x for x in "ab"), lambda: "a", NotImplemented, Ellipsis, 1j, Prickly(), ValueError("a"),
        list_in_itself(), list_twice_in_itself(), [None], [True], ("",), ["", ""], [Prickly(), Prickly()],
    ]


def small_terms(leaf_names, fixed_names, sum_names, most_leaves):
    """All terms of at most so many leaves, their sums with two or three parts, fixed ones with one
    part not within one another."""
    by_size = {1: list(leaf_names)}
    for size in range(1, most_leaves + 1):
        found = by_size.setdefault(size, [])
        for many in (2, 3):
            for sizes in itertools.product(range(1, size), repeat=many):
                if sum(sizes) == size:
                    for parts in itertools.product(*[by_size[each] for each in sizes]):
                        found.extend((name,) + parts for name in sum_names)
        found.extend([(name, part) for name in fixed_names for part in found if part[0] not in fixed_names])
    return [term for size in sorted(by_size) for term in by_size[size]]


def as_lists(term):
    """The same term with lists for tuples."""
    return term if isinstance(term, str) else [term[0]] + [as_lists(part) for part in term[1:]]


def kinds(thing):
    """The thing with the class of each of its parts beside it, so that a tuple is told from a list."""
    if isinstance(thing, dict):
        return ("dict", sorted((key, kinds(value)) for key, value in thing.items()))
    if isinstance(thing, (list, tuple)):
        return (type(thing).__name__, [kinds(part) for part in thing])
    return (type(thing).__name__, thing)


def kept_as_it_was(case, call, *handed):
    """Call, and fail if what was handed in has changed; tell what was told."""
    before = copy.deepcopy(handed)
    told = call(*handed)
    case.assertEqual([kinds(thing) for thing in handed], [kinds(thing) for thing in before])
    return told


def spoil(thing):
    """Empty every list and dict within the thing."""
    if isinstance(thing, (list, tuple)):
        for part in thing:
            spoil(part)
    if isinstance(thing, dict):
        for part in thing.values():
            spoil(part)
    if isinstance(thing, (list, dict)):
        thing.clear()


def parts_in(signs, name, thing):
    """The parts of a flat term under the sum of that name."""
    if thing == signs.nought(name):
        return []
    return list(thing[1:]) if isinstance(thing, tuple) and thing[0] == name else [thing]


def less(things, taken):
    """The things without those taken, or None where they are not all there."""
    left = list(things)
    for thing in taken:
        if thing not in left:
            return None
        left.remove(thing)
    return left


def some_of(things):
    """All ways to take some of the things, alike ones by how many."""
    different = [thing for place, thing in enumerate(things) if thing not in things[:place]]
    for row in itertools.product(*[range(things.count(thing) + 1) for thing in different]):
        yield [thing for thing, many in zip(different, row) for time in range(many)]


def matches(signs, pairs, found):
    """All fillings beyond the found one that make the first of each pair the second, a flat term that stays as it is."""
    if not pairs:
        yield found
        return
    (pattern, thing), rest = pairs[0], pairs[1:]
    if is_wish(pattern):
        if found.get(pattern, thing) == thing:
            yield from matches(signs, rest, {**found, pattern: thing})
    elif isinstance(pattern, str):
        if pattern == thing:
            yield from matches(signs, rest, found)
    elif signs.nought(pattern[0]) is not None:
        parts = sorted(pattern[1:], key=is_wish)
        yield from sum_matches(signs, pattern[0], parts, parts_in(signs, pattern[0], thing), rest, found)
    elif isinstance(thing, tuple) and thing[0] == pattern[0]:
        yield from matches(signs, list(zip(pattern[1:], thing[1:])) + rest, found)


def sum_matches(signs, name, parts, things, rest, found):
    """All fillings beyond the found one that share the things out among the parts, and make the rest alike, too."""
    if not parts:
        if not things:
            yield from matches(signs, rest, found)
        return
    part = ([each for each in parts if each in found] or parts)[0]
    others = less(parts, [part])
    if not is_wish(part):
        # A sum with a nought may become one part of the other sum, several together, or nothing of it.
        falls = isinstance(part, tuple) and signs.nought(part[0])
        for taken in some_of(things) if falls else [[thing] for place, thing in enumerate(things) if thing not in things[:place]]:
            if taken or signs.nought(name) != "":
                for more in matches(signs, [(part, flat_of_parts(signs, name, taken))], found):
                    yield from sum_matches(signs, name, others, less(things, taken), rest, more)
    elif part in found:
        left = less(things, parts_in(signs, name, found[part]))
        if left is not None:
            yield from sum_matches(signs, name, others, left, rest, found)
    else:
        for taken in some_of(things):
            if taken or signs.nought(name) != "":
                got = flat_of_parts(signs, name, taken)
                yield from sum_matches(signs, name, others, less(things, taken), rest, {**found, part: got})


def goes_through(signs, one, other, some):
    """Whether the other filling is, on some wishes, the one further by some filling; both looked over."""
    pairs = sorted([(one.get(wish, wish), other.get(wish, wish)) for wish in some], key=str)
    return next(matches(signs, pairs, {}), None) is not None


def wishes_of_two(signs, one, other):
    return sorted({*wishes(signs, one), *wishes(signs, other)})


def assert_make_alike(case, signs, one, other, fillings):
    """Each filling is looked over, fills wishes of the two alone by terms of these and of new ones, and makes them alike."""
    names = wishes_of_two(signs, one, other)
    case.assertIs(type(fillings), list)
    for filling in fillings:
        case.assertEqual(kinds(looked_over(signs, filling)), kinds(filling))
        case.assertLessEqual(set(filling), set(names))
        for term in filling.values():
            case.assertLessEqual(set(wishes(signs, term)), set(names) | set(new_wishes(40, names)))
        case.assertEqual(filled(signs, filling, one), filled(signs, filling, other), (one, other, filling))


def assert_none_missing(case, signs, one, other, fillings, universe):
    """Each way to fill the wishes of the two out of the universe that makes them alike is one of the fillings further."""
    names = wishes_of_two(signs, one, other)
    for row in itertools.product(universe, repeat=len(names)):
        filling = dict(zip(names, row))
        if put_in(signs, filling, one) == put_in(signs, filling, other):
            through = any(goes_through(signs, told, filling, names) for told in fillings)
            case.assertTrue(through, (one, other, filling))


def assert_none_too_many(case, signs, one, other, fillings):
    """None of the fillings is another one of them further."""
    names = wishes_of_two(signs, one, other)
    for told, another in itertools.permutations(fillings, 2):
        case.assertFalse(goes_through(signs, told, another, names), (one, other, told, another))


def assert_cover_each_other(case, signs, names, fillings, others):
    """Each of the fillings is, on the names, one of the others further, and the other way round."""
    for left, right in ((fillings, others), (others, fillings)):
        for filling in left:
            case.assertTrue(any(goes_through(signs, each, filling, names) for each in right), (signs.sums(), filling, right))


def some_term(chance, size, leaf_names, sum_names):
    """A term of so many leaves."""
    if chance.random() < 0.15:
        return ("f", some_term(chance, size, leaf_names, sum_names))
    if size == 1:
        return chance.choice(leaf_names)
    cuts = sorted(chance.sample(range(1, size), chance.randint(1, min(size - 1, 5))))
    parts = [some_term(chance, end - begin, leaf_names, sum_names) for begin, end in zip([0] + cuts, cuts + [size])]
    return ("g" if len(parts) == 2 and chance.random() < 0.3 else chance.choice(sum_names),) + tuple(parts)


def lifted(chance, signs, filling, term):
    """A term that the filling fills to this one, which is flat."""
    names = chance.sample(sorted(filling), len(filling))
    for wish in names:
        if filling[wish] == term and chance.random() < 0.85:
            return wish
        beside = [name for name, nought in signs.sums() if nought == filling[wish] and name != term[0]]
        if beside and chance.random() < 0.2:
            return (beside[0], wish, lifted(chance, signs, {each: filling[each] for each in names if each != wish}, term))
    if isinstance(term, str):
        return term
    if signs.nought(term[0]) is None:
        return (term[0],) + tuple(lifted(chance, signs, filling, part) for part in term[1:])
    parts, found = list(term[1:]), []
    for wish in names * 2:
        left = less(parts, parts_in(signs, term[0], filling[wish]))
        if left is not None and (left or found) and chance.random() < 0.8:
            parts = left
            found.append(wish)
    found.extend(lifted(chance, signs, filling, part) for part in parts)
    return (term[0],) + tuple(found) if len(found) > 1 else found[0]


def set_otherwise(chance, signs, term):
    """A term that is alike: parts exchanged, brackets set otherwise, noughts beside."""
    beside = [name for name, nought in signs.sums() if nought != ""]
    if beside and chance.random() < 0.3:
        name = chance.choice(beside)
        pair = [set_otherwise(chance, signs, term), signs.nought(name)]
        return (name,) + tuple(chance.sample(pair, 2))
    if isinstance(term, str):
        return term
    parts = [set_otherwise(chance, signs, part) for part in term[1:]]
    if signs.nought(term[0]) is not None:
        chance.shuffle(parts)
        while len(parts) > 2 and chance.random() < 0.6:
            begin = chance.randrange(len(parts) - 1)
            parts[begin:begin + 2] = [(term[0],) + tuple(parts[begin:begin + 2])]
    return (term[0],) + tuple(parts)


def planted(chance, signs, names):
    """Two terms, and a filling of the names that makes them alike, without wishes in its terms."""
    sum_names = [name for name, nought in signs.sums()]
    noughts = [nought for name, nought in signs.sums() if nought != ""]
    filling = {wish: flat(signs, some_term(chance, chance.choice([1, 1, 2, 3]), ["a", "b"] + noughts, sum_names)) for wish in names}
    one = flat(signs, some_term(chance, chance.randint(2, 7), names * 3 + ["a", "b"], sum_names))
    return one, lifted(chance, signs, filling, put_in(signs, filling, one)), filling


def crowded(chance, signs, names):
    """Two sums of one sign with many wishes among their parts, so that there are often many fillings."""
    sum_names = [name for name, nought in signs.sums()]

    def part():
        sort = chance.random()
        if sort < 0.7:
            return chance.choice(names)
        return chance.choice(["a", "b", ("f", chance.choice(names)), (chance.choice(sum_names), chance.choice(names), chance.choice(names + ["a"]))])

    name = chance.choice(sum_names)
    return tuple((name,) + tuple(part() for time in range(chance.randint(2, 4))) for side in range(2))


def too_much():
    """Pairs of terms that are too much, of all sample signs."""
    return [
        # wishes
        (("s", "?a", "?b", "?c", "?d", "?e"), "a"), (("g", "?a", ("g", "?b", "?c")), ("g", "?d", "?e")), (("g", "?a", ("s", "?b", "?c")), ("g", "?b", ("g", "?d", "?e"))),
        # leaves
        (("g", ("s", "a", "a", "a", "a"), ("s", "a", "b", "a", "a", "a")), "a"), ("?x", ("s", ("t", "a", "a", "a", "a", "a"), ("t", "a", "b", "a", "a"))),
        # parts of a sum, anywhere
        (("s",) + ("a",) * 7, "?x"), (("f", ("t",) + ("a",) * 7), "?x"), (("s", "a", ("s", "a", "b", "a"), ("s", "a", "b", "a")), "?x"), (("s", "a", ("f", ("s",) + ("a",) * 7)), "?x"),
        # a wish among a sum's parts, anywhere
        (("s", "?x", "?x", "?x"), "a"), (("s", "?x", ("s", "?x", "?x")), "a"), (("f", ("t", "?x", "a", ("t", "?x", "?x"))), "a"), ("?y", ("g", "a", ("s", "?x", "?x", "a", "?x"))),
    ]


def not_too_much():
    """Pairs of terms that are just not too much, and can be made alike."""
    return [
        (("s", "?a", "?b"), ("s", "?c", "?d")), (("g", "?a", ("g", "?b", "?c")), ("g", "?d", "?a")), (("g", ("s", "a", "a", "a", "a"), ("s", "a", "b", "a", "a")), "?x"),
        (("s",) + ("a",) * 6, "?x"), (("s", "a", ("s", "a", "b"), ("s", "a", "b", "a")), "?x"), (("s", "?x", "?x"), ("s", "?y", "?y")),
        (("s", "?x", "?x", ("f", "?x"), ("t", "?x", "?x", "a")), "?y"), (("g", ("s", "?x", "?x"), ("s", "?x", "?x")), ("g", "?y", "?y")),
        (("s", ("t", "a", "a", "a", "a"), ("t", "a", "b", "a", "a")), "?x"),
    ]
