"""Rows of counts: equations over whole numbers, the rows that hold, and the least of these."""

from likefill.errors import NoCounts, NoRow
from likefill.signs import is_whole

MOST_COUNTS = 4
GREATEST_COUNT = 4


def is_counts(thing, least):
    """Whether the thing lists whole numbers from 1 to 4, least to four of them."""
    if not isinstance(thing, (list, tuple)) or not least <= len(thing) <= MOST_COUNTS:
        return False
    return all([is_whole(count) and 1 <= count <= GREATEST_COUNT for count in thing])


def check_equation(left, right):
    """Refuse what is no equation."""
    if not is_counts(left, 0) or not is_counts(right, 0) or len(left) + len(right) == 0:
        raise NoCounts("an equation is two lists, not both empty, of none to four numbers from 1 to 4")


def check_row(left, right, row):
    """Refuse what is no row of the equation."""
    if not isinstance(row, (list, tuple)) or len(row) != len(left) + len(right):
        raise NoRow("a row has as many numbers as left and right together")
    if not all([is_whole(number) and number >= 0 for number in row]):
        raise NoRow("a row has whole numbers from 0 on")


def signed(left, right):
    """The equation as one list: left's numbers, and right's below 0."""
    return list(left) + [-count for count in right]


def weight(sizes, row):
    """The sizes, each times its number of the row, together."""
    return sum([size * number for size, number in zip(sizes, row)])


def is_under(row, other):
    """Whether no number of the row is greater than that of the other one."""
    return all([number <= above for number, above in zip(row, other)])


def holds(left, right, row):
    """Whether the row holds in the equation."""
    check_equation(left, right)
    check_row(left, right, row)
    return weight(signed(left, right), row) == 0


def least_rows(left, right):
    """The least rows of the equation, as lists are compared."""
    check_equation(left, right)
    sizes = [(size,) for size in signed(left, right)]
    return [list(row) for row in grown_rows(sizes, [[] for size in sizes])]


def made_of(left, right, row):
    """How many of each least row, in the order in which they are told, are together the row."""
    if not holds(left, right, row):
        raise NoRow("this row does not hold")
    rest = list(row)
    counts = []
    for least in least_rows(left, right):
        many = min([number // part for number, part in zip(rest, least) if part > 0])
        rest = [number - many * part for number, part in zip(rest, least)]
        counts.append(many)
    return counts


def grown_rows(sizes, foes):
    """The least rows that hold in several equations at once, as tuples, in order.

    For each place in a row, sizes has a tuple of its sizes in the equations, above 0 on the left
    and below 0 on the right; and foes has the places at which there is nothing when one more is
    put there (the place itself, where it may have but one).
    """
    found = []
    level = {unit(place, len(sizes)): size for place, size in enumerate(sizes)}
    while level:
        found.extend([row for row, over in level.items() if not any(over)])
        grown = {}
        for row, over in level.items():
            for place, size in enumerate(sizes):
                # Only what goes against the weight so far can lead to a least row.
                if weight(over, size) < 0 and not any([row[foe] > 0 for foe in foes[place]]):
                    grown[one_more(row, place)] = tuple([one + other for one, other in zip(over, size)])
        level = {row: over for row, over in grown.items() if not any([is_under(least, row) for least in found])}
    return sorted(found)


def unit(place, many):
    """A row of so many numbers with 1 at the place, else 0."""
    return (0,) * place + (1,) + (0,) * (many - place - 1)


def one_more(row, place):
    """The row with one more at the place."""
    return row[:place] + (row[place] + 1,) + row[place + 1:]
