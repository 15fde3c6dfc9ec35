"""How sums of the same sign are made alike: least rows of their parts, and choices of such rows.

Each pair of sums is an equation. How often a part stands in the one sum less how often in the
other one is its size there; like parts are struck out by that. A row tells how often some one
thing goes into each part. A wish takes in things as they come. A part that is no wish is one
thing itself; no row has two of these.
"""

from likefill.lists import each_once
from likefill.rows import grown_rows
from likefill.sides import is_block
from likefill.terms import flat_sum, is_wish, walked


def sized_parts(pairs):
    """The different parts in pairs of lists, and of each its sizes, those of no size left out."""
    parts = []
    for left, right in pairs:
        parts.extend(left + right)
    different = each_once(parts)
    sizes = [tuple([left.count(part) - right.count(part) for left, right in pairs]) for part in different]
    places = [place for place, size in enumerate(sizes) if any(size)]
    return [different[place] for place in places], [sizes[place] for place in places]


def all_choices(parts, sizes, foes, nought):
    """All choices of least rows that make the sums alike.

    Where there is no nought, each wish gets a thing at least, and of the rows of wishes alone any
    may be left out. Where there is one, they are all taken: what comes of them may be the nought.
    """
    rows = grown_rows(sizes, foes)
    begun = bound_choices(parts, rows)
    free = [row for row in rows if own_part(parts, row) is None]
    if nought != "":
        return [choice + free for choice in begun]
    for row in free:
        begun = begun + [choice + [row] for choice in begun]
    return [choice for choice in begun if gives_each(choice, len(parts))]


def own_part(parts, row):
    """The part that is no wish to which the row gives its thing, or None."""
    for part, many in zip(parts, row):
        if many > 0 and not is_wish(part):
            return part
    return None


def bound_choices(parts, rows):
    """All choices of one row for each part that is no wish, but those that come to nothing."""
    chosen = [[]]
    for place, part in enumerate(parts):
        if not is_wish(part):
            fitting = [row for row in rows if row[place] > 0]
            chosen = [choice + [row] for choice in chosen for row in fitting]
            if not is_block(part):
                chosen = [choice for choice in chosen if not has_circle(parts, choice)]
    return chosen


def has_circle(parts, choice):
    """Whether a wish, by what it gets, would stand within itself."""
    within = {part: [] for part in parts if is_wish(part)}
    for row in choice:
        deeper = [at for at in walked(own_part(parts, row)) if is_wish(at) and at in within]
        for part, many in zip(parts, row):
            if many > 0 and is_wish(part):
                within[part].extend(deeper)
    # A wish is ended when all within it are; those in a circle never are.
    ended = []
    while len(ended) < len(within):
        more = [wish for wish, held in within.items() if wish not in ended and all([at in ended for at in held])]
        if not more:
            return True
        ended.extend(more)
    return False


def gives_each(choice, many):
    """Whether each of so many parts gets a thing by the rows."""
    return all([any([row[place] > 0 for row in choice]) for place in range(many)])


def things_of(parts, choice, new):
    """What each row stands for: the block that it has, or else the next one of the new wishes."""
    found = []
    used = 0
    for row in choice:
        own = own_part(parts, row)
        if own is not None and is_block(own):
            found.append(own)
        else:
            found.append(new[used])
            used += 1
    return found


def filling_of(parts, choice, things, name, nought):
    """The filling that gives the wishes among the parts their things."""
    filling = {}
    for place, part in enumerate(parts):
        if is_wish(part):
            got = [thing for row, thing in zip(choice, things) for again in range(row[place])]
            filling[part] = flat_sum(name, nought, got)
    return filling


def pairs_of(parts, choice, things):
    """What is yet to be made alike: the things and the parts, no wishes, that are to be these things."""
    pairs = [(thing, own_part(parts, row)) for row, thing in zip(choice, things)]
    return [(thing, own) for thing, own in pairs if own is not None and own != thing]
