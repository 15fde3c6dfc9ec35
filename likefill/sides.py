"""Terms seen as parts under one sum, and sides: those whose parts are wishes and blocks."""

from likefill.errors import NoSide
from likefill.terms import flat, flat_sum, is_wish, opened, walked


def parts_of_flat(signs, name, term):
    """The parts of a flat term under the sum of that name."""
    return [] if term == signs.nought(name) else opened(name, term)


def parts_under(signs, name, term):
    """The parts of the term's flat form under the sum of that name."""
    return parts_of_flat(signs, name, flat(signs, term))


def summed(signs, name, parts):
    """The flat term of these parts under the sum of that name."""
    flat_parts = [flat(signs, part) for part in parts]
    nought = signs.nought(name)
    if not flat_parts and nought == "":
        raise NoSide(f"{name} has no nought to stand for no parts")
    return flat_sum(name, nought, flat_parts)


def is_block(term):
    """Whether the term is without wishes."""
    return not any([is_wish(at) for at in walked(term)])


def is_side(signs, name, term):
    """Whether the term's flat parts under the sum of that name are wishes and blocks."""
    return all([is_wish(part) or is_block(part) for part in parts_under(signs, name, term)])
