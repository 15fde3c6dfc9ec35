"""The signs that terms are made of: fixed ones, and sums with their noughts."""

from likefill.errors import NoSigns

LETTERS = "abcdefghijklmnopqrstuvwxyz"
LONGEST_NAME = 6
MOST_FIXED = 12
MOST_SUMS = 3
MOST_PARTS = 3


class Signs:
    """Fixed signs, each with how many parts it has, and sums, each with its nought or ""."""

    def __init__(self, fixed, sums):
        fixed_rows = checked_pairs(fixed, 1, MOST_FIXED)
        sum_rows = checked_pairs(sums, 0, MOST_SUMS)
        check_names(fixed_rows + sum_rows)
        check_parts(fixed_rows)
        check_noughts(sum_rows, [name for name, many in fixed_rows if many == 0])
        self.fixed_rows = fixed_rows
        self.sum_rows = sum_rows
        self.many_by_name = dict(fixed_rows)
        self.nought_by_name = dict(sum_rows)

    def fixed(self):
        """The fixed signs as they were handed in: tuples (name, how many parts)."""
        return list(self.fixed_rows)

    def sums(self):
        """The sums as they were handed in: tuples (name, nought)."""
        return list(self.sum_rows)

    def many(self, name):
        """How many parts the fixed sign of that name has; None of anything else."""
        # Not everything can be asked of a dict, so what is no text is turned away first.
        return self.many_by_name.get(name) if isinstance(name, str) else None

    def nought(self, name):
        """The nought of the sum of that name, or "" where it has none; None of anything else."""
        return self.nought_by_name.get(name) if isinstance(name, str) else None


def is_name(thing):
    """Whether the thing is a name: one to six letters a to z."""
    if not isinstance(thing, str) or not 1 <= len(thing) <= LONGEST_NAME:
        return False
    return all([sign in LETTERS for sign in thing])


def is_whole(thing):
    """Whether the thing is a whole number; True and False are none."""
    return isinstance(thing, int) and not isinstance(thing, bool)


def checked_pairs(thing, least, most):
    """The pairs, least to most of them, that the thing lists, as tuples of the program's own."""
    if not isinstance(thing, (list, tuple)) or not least <= len(thing) <= most:
        raise NoSigns(f"signs of one sort are a list of {least} to {most} pairs")
    for pair in thing:
        if not isinstance(pair, (list, tuple)) or len(pair) != 2:
            raise NoSigns("a sign is told by a pair")
    return [tuple(pair) for pair in thing]


def check_names(pairs):
    """Refuse pairs of which one does not begin with a name, or two begin with the same."""
    names = [name for name, told in pairs]
    if not all([is_name(name) for name in names]):
        raise NoSigns("a sign's name is one to six letters a to z")
    if len(set(names)) < len(names):
        raise NoSigns("a name stands twice among the signs")


def check_parts(fixed_rows):
    """Refuse fixed signs with other numbers of parts than there are, or none without parts."""
    for name, many in fixed_rows:
        if not is_whole(many) or not 0 <= many <= MOST_PARTS:
            raise NoSigns(f"the fixed sign {name} has no number of parts from 0 to {MOST_PARTS}")
    if not any([many == 0 for name, many in fixed_rows]):
        raise NoSigns("no fixed sign is without parts")


def check_noughts(sum_rows, bare_names):
    """Refuse noughts that are neither "" nor one of the bare names, or belong to two sums."""
    for name, nought in sum_rows:
        if not isinstance(nought, str) or (nought != "" and nought not in bare_names):
            raise NoSigns(f"the nought of {name} is no fixed sign without parts")
    noughts = [nought for name, nought in sum_rows if nought != ""]
    if len(set(noughts)) < len(noughts):
        raise NoSigns("a nought belongs to two sums")
