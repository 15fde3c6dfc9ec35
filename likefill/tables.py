"""Fillings made least, and tables: all fillings that make terms alike, none of them too many."""

from likefill.covering import covering, is_table
from likefill.fillings import looked_over
from likefill.frozen import frozen
from likefill.limits import check_not_too_much, wishes_of
from likefill.marks import is_no_more, marks_of_row, packed
from likefill.matching import matches
from likefill.terms import flat


class Candidate:
    """A filling, its terms for the wishes asked, these frozen, and their marks."""

    def __init__(self, filling, patterns, things, marks):
        self.filling = filling
        self.patterns = patterns
        self.things = things
        self.marks = marks


def made_least(signs, fillings, wishes):
    """The fillings made least on some wishes, whole and looked over."""
    return least_ones(signs, [looked_over(signs, filling) for filling in fillings], wishes)


def least_ones(signs, fillings, wishes):
    """The fillings, which are looked over, made least on the wishes."""
    rows = [[filling.get(wish, wish) for wish in wishes] for filling in fillings]
    all_marks, guards = packed([marks_of_row(signs, row) for row in rows])
    left = []
    for filling, row, marks in zip(fillings, rows, all_marks):
        candidate = Candidate(filling, row, [frozen(signs, term) for term in row], marks)
        if not is_covered(signs, left, candidate, guards):
            left = [other for other in left if not goes_through(signs, candidate, other, guards)]
            left.append(candidate)
    return [candidate.filling for candidate in left]


def is_covered(signs, left, candidate, guards):
    """Whether the candidate is one of those that are left further by some filling."""
    for other in left:
        if goes_through(signs, other, candidate, guards):
            return True
    return False


def goes_through(signs, one, other, guards):
    """Whether the other candidate is the one further by some filling."""
    if not is_no_more(one.marks, other.marks, guards):
        return False
    return matches(signs, list(zip(one.patterns, other.things)), True) != []


def table(signs, one, other):
    """The table of two terms."""
    terms = [flat(signs, one), flat(signs, other)]
    check_not_too_much(signs, terms)
    return least_cover(signs, [(terms[0], terms[1])])


def least_cover(signs, pairs):
    """The table of the pairs of flat terms, none of them too much."""
    names = wishes_of([term for pair in pairs for term in pair])
    fillings = covering(signs, names, pairs)
    return fillings if is_table(signs, names, pairs) else least_ones(signs, fillings, names)
