"""What several tests need: sample signs, things that are nothing at all, small terms by the hundred."""

import copy
import itertools

from likefill.signs import Signs


def sample_signs():
    """Fixed a, b, z, o, f/1, g/2, h/3; the sums s (nought z), t (nought o) and u (none)."""
    return Signs(
        [("a", 0), ("b", 0), ("z", 0), ("o", 0), ("f", 1), ("g", 2), ("h", 3)],
        [("s", "z"), ("t", "o"), ("u", "")],
    )


class Prickly:
    """A thing that can't be compared, hashed, measured, walked, or taken for true or false."""

    __hash__ = None

    def refuse(self, *args):
        raise RuntimeError("nobody may ask this")

    __eq__ = __ne__ = __lt__ = __len__ = __iter__ = __getitem__ = __bool__ = __contains__ = __str__ = refuse

    def __repr__(self):
        return "Prickly()"


def list_in_itself():
    thing = ["s", "a"]
    thing.append(thing)
    return thing


def list_twice_in_itself():
    thing = ["g"]
    thing.extend([thing, thing])
    return thing


def odd_things():
    """Things that are no signs, no term, no written term, whoever is asked."""
    return [
        None, True, False, 0, 1, -1, 10 ** 30, "", " ", "?", "\n", "\ud800", b"", b"a", b"?x", bytearray(b"a"),
        [], (), [[]], ((),), [()], {}, {"a": 0}, {"a"}, set(), frozenset("a"), range(3), object(), object, str, len,
        iter("a"), (x for x in "ab"), lambda: "a", NotImplemented, Ellipsis, 1j, Prickly(), ValueError("a"),
        list_in_itself(), list_twice_in_itself(), [None], [True], ("",), ["", ""], [Prickly(), Prickly()],
    ]


def small_terms(leaf_names, fixed_names, sum_names, most_leaves):
    """All terms of at most so many leaves, their sums with two or three parts, fixed ones with one
    part not within one another."""
    by_size = {1: list(leaf_names)}
    for size in range(1, most_leaves + 1):
        found = by_size.setdefault(size, [])
        for many in (2, 3):
            for sizes in itertools.product(range(1, size), repeat=many):
                if sum(sizes) == size:
                    for parts in itertools.product(*[by_size[each] for each in sizes]):
                        found.extend((name,) + parts for name in sum_names)
        found.extend([(name, part) for name in fixed_names for part in found if part[0] not in fixed_names])
    return [term for size in sorted(by_size) for term in by_size[size]]


def as_lists(term):
    """The same term with lists for tuples."""
    return term if isinstance(term, str) else [term[0]] + [as_lists(part) for part in term[1:]]


def kinds(thing):
    """The thing with the class of each of its parts beside it, so that a tuple is told from a list."""
    if isinstance(thing, dict):
        return ("dict", sorted((key, kinds(value)) for key, value in thing.items()))
    if isinstance(thing, (list, tuple)):
        return (type(thing).__name__, [kinds(part) for part in thing])
    return (type(thing).__name__, thing)


def kept_as_it_was(case, call, *handed):
    """Call, and fail if what was handed in has changed; tell what was told."""
    before = copy.deepcopy(handed)
    told = call(*handed)
    case.assertEqual([kinds(thing) for thing in handed], [kinds(thing) for thing in before])
    return told


def spoil(thing):
    """Empty every list and dict within the thing."""
    if isinstance(thing, (list, tuple)):
        for part in thing:
            spoil(part)
    if isinstance(thing, dict):
        for part in thing.values():
            spoil(part)
    if isinstance(thing, (list, dict)):
        thing.clear()
