"""Fillings that make patterns alike things without wishes: all of them, or one.

A search that can't be gone on with in one way alone is gone on with in several: first parts of
sums that are no wishes are given a part of the thing each, or fall away; then wishes that stand in
sums of two signs are; then what is left of the things is shared among the wishes.
"""

from likefill.lists import each_once, less, without
from likefill.searches import Search, go_on
from likefill.sharing import all_sharings, one_sharing
from likefill.sides import parts_of_flat
from likefill.terms import flat_sum, head, is_wish


def matches(signs, pairs, first_alone):
    """All fillings that make each pattern alike its thing, each once; or the first alone that is found."""
    found = {}
    searches = [Search({}, list(pairs), [])]
    while searches:
        search = searches.pop()
        if go_on(signs, search):
            more = branches(signs, search)
            if more is not None:
                searches.extend(more)
            else:
                for filling in shared_out(signs, search, first_alone):
                    if first_alone:
                        return [filling]
                    found[repr([(wish, filling[wish]) for wish in sorted(filling)])] = filling
    return list(found.values())


def branches(signs, search):
    """The searches that go on from this one; None where there is nothing left to do but to share."""
    best = None
    for place, (name, parts, things) in enumerate(search.sums_left):
        for part in each_once(parts):
            if not is_wish(part):
                options = options_of(signs, search, place, part)
                if best is None or len(options) < len(best):
                    best = options
    if best is not None:
        return best
    return by_torn_wish(search)


def options_of(signs, search, place, part):
    """The searches in which a part of the sum at that place, no wish, gets a part of the thing, or falls away."""
    name, parts, things = search.sums_left[place]
    times = parts.count(part)
    others = without(parts, part)
    found = []
    for thing in each_once(things):
        if head(thing) == head(part) and things.count(thing) >= times:
            found.append(changed(search, place, (name, others, less(things, [thing] * times)), [(part, thing)]))
    nought = signs.nought(part[0])
    if nought is not None and nought != "":
        for staying in each_once(part[1:]):
            pairs = [(falling, nought) for falling in less(part[1:], [staying])]
            left = others + parts_of_flat(signs, name, staying) * times
            found.append(changed(search, place, (name, left, things), pairs))
    return found


def changed(search, place, left, pairs):
    """The search with the pairs, and with something else left of the sum at that place."""
    return Search(dict(search.bound), pairs, search.sums_left[:place] + [left] + search.sums_left[place + 1:])


def by_torn_wish(search):
    """The searches in which a wish that stands in sums of two signs is filled; None where there is no such wish."""
    for place, (name, parts, things) in enumerate(search.sums_left):
        for other_name, other_parts, other_things in search.sums_left[:place]:
            both = [part for part in parts if part in other_parts]
            if name != other_name and both:
                # What is no part under the one sign is several parts, or none, and so one part under the other.
                fitting = each_once(things + other_things)
                return [Search(dict(search.bound), [(both[0], thing)], search.sums_left) for thing in fitting]
    return None


def shared_out(signs, search, first_alone):
    """The fillings that share what is left of the things among the wishes; they have all that is bound."""
    by_name = {}
    for name, parts, things in search.sums_left:
        by_name.setdefault(name, []).append((parts, things))
    found = [search.bound]
    for name, sides in by_name.items():
        more = shared_under(name, signs.nought(name), sides, first_alone)
        found = [joined_dicts(filling, other) for filling in found for other in more]
    return found


def joined_dicts(one, other):
    """What both dicts have."""
    both = dict(one)
    both.update(other)
    return both


def shared_under(name, nought, sides, first_alone):
    """The fillings that share the things of each of the sides among its parts, all wishes, under one sum."""
    wishes = each_once([part for parts, things in sides for part in parts])
    different = each_once([thing for parts, things in sides for thing in things])
    sizes = [tuple([parts.count(wish) for parts, things in sides]) for wish in wishes]
    goals = [tuple([things.count(thing) for parts, things in sides]) for thing in different]
    if first_alone:
        sharings = one_sharing(sizes, goals, nought != "")
    else:
        sharings = all_sharings(sizes, goals, nought != "")
    found = []
    for rows in sharings:
        filling = {}
        for place, wish in enumerate(wishes):
            got = [thing for row, thing in zip(rows, different) for again in range(row[place])]
            filling[wish] = flat_sum(name, nought, got)
        found.append(filling)
    return found
