"""Shares: all ways to make up a whole number of some numbers, each as often as one likes."""

from likefill.errors import NoCounts
from likefill.rows import is_counts
from likefill.signs import is_whole

GREATEST_WHOLE = 24


def shares(left, whole):
    """All lists of numbers that, each times left's own, are together the whole, as lists are compared."""
    if not is_counts(left, 1):
        raise NoCounts("shares are by one to four numbers from 1 to 4")
    if not is_whole(whole) or not 0 <= whole <= GREATEST_WHOLE:
        raise NoCounts(f"shares are of a whole number from 0 to {GREATEST_WHOLE}")
    begun = [([], whole)]
    for size in left[:-1]:
        begun = [(share + [many], rest - many * size) for share, rest in begun for many in range(rest // size + 1)]
    last = left[-1]
    return [share + [rest // last] for share, rest in begun if rest % last == 0]
