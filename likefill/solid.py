"""Which sums may fall away: a sum with a nought is but one part, or the nought, where all others become it.

A sum that can't is solid: whatever its wishes are filled by, it is a sum of its sign. Terms are nested
here as sums straight within sums alone, so calls within calls are few.
"""

from likefill.terms import is_wish


def are_apart(apart, one, other):
    """Whether the two are held apart."""
    return (one, other) in apart or (other, one) in apart


def is_never(signs, apart, part, nought):
    """Whether a part of a flat sum can be told never to become the sum's nought."""
    if are_apart(apart, part, nought):
        return True
    return not is_wish(part) and (isinstance(part, str) or is_solid(signs, apart, part))


def is_solid(signs, apart, term):
    """Whether the flat term, no text, can be told to keep its sign."""
    nought = signs.nought(term[0])
    if nought is None or nought == "":
        return True
    return len([part for part in term[1:] if is_never(signs, apart, part, nought)]) >= 2


def loose_pair(signs, apart, term):
    """A wish within the term and a nought, such that it is open whether they are alike and whether the term falls away.

    None where the term is a text, or solid.
    """
    if isinstance(term, str) or is_solid(signs, apart, term):
        return None
    nought = signs.nought(term[0])
    open_parts = [part for part in term[1:] if not is_never(signs, apart, part, nought)]
    for part in open_parts:
        if is_wish(part):
            return (part, nought)
    return loose_pair(signs, apart, open_parts[0])
