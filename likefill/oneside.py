"""All ways to make a pattern alike a thing that stays as it is."""

from likefill.frozen import frozen, thawed
from likefill.limits import check_leaves, check_wishes
from likefill.matching import matches
from likefill.terms import flat


def ways(signs, pattern, thing):
    """All fillings of just the pattern's wishes that make the pattern alike the thing, each once."""
    terms = [flat(signs, pattern), flat(signs, thing)]
    check_wishes(terms[:1])
    for term in terms:
        check_leaves(term)
    found = matches(signs, [(terms[0], frozen(signs, terms[1]))], False)
    return [{wish: thawed(signs, term) for wish, term in filling.items()} for filling in found]
