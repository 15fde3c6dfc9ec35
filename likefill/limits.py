"""What is too much to look for fillings of."""

from likefill.errors import TooMuch
from likefill.terms import is_wish, walked

MOST_WISHES = 4
MOST_LEAVES = 8
MOST_PARTS_OF_A_SUM = 6
MOST_OF_A_WISH = 2


def wishes_of(terms):
    """The wishes of all the terms, each once, in order."""
    return sorted({at for term in terms for at in walked(term) if is_wish(at)})


def check_not_too_much(signs, terms):
    """Refuse flat terms that are too much, each by itself or by their wishes together."""
    for term in terms:
        check_leaves(term)
        for at in walked(term):
            if not isinstance(at, str) and signs.nought(at[0]) is not None:
                check_sum_not_too_much(at[1:])
    check_wishes(terms)


def check_leaves(term):
    """Refuse a flat term with too many leaves."""
    if len([at for at in walked(term) if isinstance(at, str)]) > MOST_LEAVES:
        raise TooMuch(f"a term has more than {MOST_LEAVES} leaves")


def check_wishes(terms):
    """Refuse flat terms with too many wishes together."""
    if len(wishes_of(terms)) > MOST_WISHES:
        raise TooMuch(f"there are more than {MOST_WISHES} wishes")


def check_sum_not_too_much(parts):
    """Refuse too many parts of a sum, or a wish too often among them."""
    if len(parts) > MOST_PARTS_OF_A_SUM:
        raise TooMuch(f"a sum has more than {MOST_PARTS_OF_A_SUM} parts")
    if any([is_wish(part) and parts.count(part) > MOST_OF_A_WISH for part in parts]):
        raise TooMuch(f"a wish stands more than {MOST_OF_A_WISH} times among a sum's parts")
