"""Tables and rest papers of two sides under one sum."""

from likefill.choices import all_choices, filling_of, sized_parts, things_of
from likefill.errors import NoSide
from likefill.fillings import new_wishes
from likefill.limits import check_not_too_much, wishes_of
from likefill.sides import is_side, parts_of_flat
from likefill.terms import flat, is_wish


def two_sides(signs, name, one, other):
    """The flat forms of the two terms, if they are sides under the sum and not too much."""
    terms = [flat(signs, one), flat(signs, other)]
    for term in terms:
        if not is_side(signs, name, term):
            raise NoSide(f"a part under {name} is neither a wish nor without wishes")
    check_not_too_much(signs, terms)
    return terms


def left_of_sides(signs, name, terms):
    """The different parts that are left of the two sides, and their sizes."""
    left, right = [parts_of_flat(signs, name, term) for term in terms]
    return sized_parts([(left, right)])


def block_foes(parts):
    """For each part the places of its foes: of a block those of all blocks, its own too."""
    places = [place for place, part in enumerate(parts) if not is_wish(part)]
    return [[] if is_wish(part) else places for part in parts]


def one_sum(signs, name, one, other):
    """The table of two sides under the sum of that name."""
    terms = two_sides(signs, name, one, other)
    parts, sizes = left_of_sides(signs, name, terms)
    nought = signs.nought(name)
    table = []
    for choice in all_choices(parts, sizes, block_foes(parts), nought):
        things = things_of(parts, choice, new_wishes(len(choice), wishes_of(terms)))
        table.append(filling_of(parts, choice, things, name, nought))
    return table


def rest_paper(signs, name, one, other):
    """A block and a number that show that nothing makes the two sides alike, or None."""
    terms = two_sides(signs, name, one, other)
    parts, sizes = left_of_sides(signs, name, terms)
    number = 0
    for part, size in zip(parts, sizes):
        if is_wish(part):
            number = common_measure(number, abs(size[0]))
    for part, size in zip(parts, sizes):
        # Parts of size 0 are left out, so where the number is 0 any block that is there will do.
        if not is_wish(part) and (number == 0 or size[0] % number != 0):
            return (part, number)
    return None


def common_measure(one, other):
    """The greatest number of which both are multiples; 0 of 0 and 0."""
    while other > 0:
        one, other = other, one % other
    return one
