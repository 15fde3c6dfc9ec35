"""Clashes: what shows, by fixed signs and wishes alone, that nothing makes two terms alike."""

from likefill.limits import check_not_too_much
from likefill.terms import flat, head, is_wish, walked


def clash(signs, one, other):
    """The first clash that is met going down through like fixed signs of the two flat forms, or None."""
    terms = [flat(signs, one), flat(signs, other)]
    check_not_too_much(signs, terms)
    todo = [((), terms[0], terms[1])]
    while todo:
        place, left, right = todo.pop()
        found = clash_at(signs, place, left, right)
        if found is not None:
            return found
        if is_fixed(signs, left) and head(left) == head(right) and not isinstance(left, str):
            parts = [(place + (at,), part, right[at + 1]) for at, part in enumerate(left[1:])]
            todo.extend(parts[::-1])
    return None


def is_fixed(signs, term):
    """Whether the term is of a fixed sign."""
    return signs.many(head(term)) is not None


def clash_at(signs, place, left, right):
    """The clash of the two flat terms at this place themselves, or None."""
    if is_fixed(signs, left) and is_fixed(signs, right) and head(left) != head(right):
        return ("signs", place, head(left), head(right))
    for wish, term in ((left, right), (right, left)):
        if is_wish(wish):
            for at in walked(term):
                if is_fixed(signs, at) and wish in walked(at):
                    return ("own", place, wish, head(at))
    return None
