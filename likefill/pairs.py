"""Tables of several pairs of terms at once."""

from likefill.limits import check_not_too_much
from likefill.tables import least_cover
from likefill.terms import flat


def table_of(signs, pairs):
    """The table of the pairs: fillings that make the two of each pair alike."""
    flat_pairs = [(flat(signs, one), flat(signs, other)) for one, other in pairs]
    check_not_too_much(signs, [term for pair in flat_pairs for term in pair])
    return least_cover(signs, flat_pairs)
