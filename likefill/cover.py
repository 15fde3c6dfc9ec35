"""Fillings that cover two terms, of any signs."""

from likefill.covering import covering
from likefill.limits import check_not_too_much, wishes_of
from likefill.terms import flat


def cover(signs, one, other):
    """Fillings that cover the two terms."""
    terms = [flat(signs, one), flat(signs, other)]
    check_not_too_much(signs, terms)
    return covering(signs, wishes_of(terms), [(terms[0], terms[1])])
