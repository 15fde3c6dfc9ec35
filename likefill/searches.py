"""Searches: pairs of a pattern and a thing, of which the patterns alone are to be filled.

The things have no wishes. As long as there is but one way to go on with a search, it is gone.
What is left are sums: some parts of a pattern, with wishes each, and the parts of the thing that
they are to be together.
"""

from likefill.lists import less
from likefill.sides import is_block, parts_of_flat
from likefill.terms import flat_sum, head, is_wish, put_in


class Search:
    """What wishes are filled by so far, pairs of a pattern and a thing, and what is left of sums.

    sums_left holds tuples of a sum's name, a list of a pattern's parts and a list of a thing's parts.
    """

    def __init__(self, bound, pairs, sums_left):
        self.bound = bound
        self.pairs = pairs
        self.sums_left = sums_left


def go_on(signs, search):
    """Go on with the search while there is but one way; tell whether it may come to something."""
    while search.pairs:
        while search.pairs:
            pattern, thing = search.pairs.pop()
            if not take_pair(signs, search, pattern, thing):
                return False
        todo = search.sums_left
        search.sums_left = []
        for name, parts, things in todo:
            if not take_sum(signs, search, name, parts, things):
                return False
    return True


def take_pair(signs, search, pattern, thing):
    """Take a pair into the search; tell whether it may come to something."""
    if is_wish(pattern):
        bind(signs, search, pattern, thing)
        return True
    if is_block(pattern):
        return pattern == thing
    name = pattern[0]
    if signs.nought(name) is not None:
        search.sums_left.append((name, list(pattern[1:]), parts_of_flat(signs, name, thing)))
        return True
    if head(thing) != name:
        return False
    search.pairs.extend(list(zip(pattern[1:], thing[1:])))
    return True


def bind(signs, search, wish, thing):
    """Fill the wish by the thing everywhere in the search."""
    filling = {wish: thing}
    search.bound[wish] = thing
    search.pairs = [(put_in(signs, filling, pattern), other) for pattern, other in search.pairs]
    filled_sums = []
    for name, parts, things in search.sums_left:
        opened_parts = []
        for part in parts:
            opened_parts.extend(parts_of_flat(signs, name, put_in(signs, filling, part)))
        filled_sums.append((name, opened_parts, things))
    search.sums_left = filled_sums


def take_sum(signs, search, name, parts, things):
    """Take what is left of a sum into the search; tell whether it may come to something."""
    nought = signs.nought(name)
    blocks = [part for part in parts if is_block(part)]
    open_parts = [part for part in parts if part not in blocks]
    left = less(things, blocks)
    if left is None or (not open_parts and left):
        return False
    if nought == "" and len(open_parts) > len(left):
        return False
    if not left:
        search.pairs.extend([(part, nought) for part in open_parts])
    elif len(open_parts) == 1:
        search.pairs.append((open_parts[0], flat_sum(name, nought, left)))
    else:
        search.sums_left.append((name, open_parts, left))
    return True
