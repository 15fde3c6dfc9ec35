"""Fillings that cover two terms, where no sum has a nought."""

from likefill.covering import covering
from likefill.errors import NoSigns
from likefill.limits import check_not_too_much, wishes_of
from likefill.terms import flat


def solved(signs, one, other):
    """Fillings that cover the two terms, where no sum has a nought."""
    terms = [flat(signs, one), flat(signs, other)]
    check_not_too_much(signs, terms)
    if any([nought != "" for name, nought in signs.sums()]):
        raise NoSigns("a sum has a nought")
    return covering(signs, wishes_of(terms), [(terms[0], terms[1])])
