"""Groups: all that is to be made alike under one sum in a trial, taken at once."""

from likefill.choices import sized_parts
from likefill.lists import first_of
from likefill.sides import parts_of_flat
from likefill.solid import are_apart, loose_pair
from likefill.terms import head, is_wish, walked
from likefill.trials import may_be_alike, stand_in


class Group:
    """The parts under one sum in a trial, and their sizes.

    loose is a wish and a nought of which it must be known first whether they are alike, or None;
    where it is None, foes has for each part the places of its foes.
    """

    def __init__(self, name, parts, sizes, loose):
        self.name = name
        self.parts = parts
        self.sizes = sizes
        self.loose = loose
        self.foes = []


def groups_of(signs, trial):
    """The groups of a settled trial, one for each sum."""
    by_name = {}
    for name, one, other in trial.under_sums:
        sides = [parts_of_flat(signs, name, term) for term in (one, other)]
        left, right = [[stand_in(trial.joined, part) for part in side] for side in sides]
        by_name.setdefault(name, []).append((left, right))
    apart = [(stand_in(trial.joined, one), stand_in(trial.joined, other)) for one, other in trial.apart]
    groups = []
    for name, pairs in by_name.items():
        parts, sizes = sized_parts(pairs)
        groups.append(Group(name, parts, sizes, first_of([loose_pair(signs, apart, part) for part in parts])))
    for group in groups:
        if group.loose is None:
            group.foes = [foes_of(signs, apart, group.parts, part) for part in group.parts]
    return groups


def foes_of(signs, apart, parts, part):
    """The places of the part's foes among the parts."""
    return [place for place, other in enumerate(parts) if are_foes(signs, apart, part, other)]


def are_foes(signs, apart, part, other):
    """Whether no one thing can go into both parts; of a part and itself, whether it gets but one thing.

    Parts that are no wishes keep their signs.
    """
    if is_wish(part) and is_wish(other):
        return False
    if is_wish(part) or is_wish(other):
        return part in walked(other) or other in walked(part)
    if part == other or are_apart(apart, part, other):
        return True
    return head(part) != head(other) or not may_be_alike(signs, part, other)


def is_stranded(signs, group):
    """Whether a part that must get something can share nothing with any part on the other side of an equation."""
    nought = signs.nought(group.name)
    for place, size in enumerate(group.sizes):
        if nought == "" or not is_wish(group.parts[place]):
            for number, own in enumerate(size):
                across = [at for at, other in enumerate(group.sizes) if own * other[number] < 0]
                if own != 0 and all([at in group.foes[place] for at in across]):
                    return True
    return False


def undecided(group):
    """Two of the group's parts, no wishes, of which it is open whether they are to be alike; or None."""
    for place, part in enumerate(group.parts):
        for at, other in enumerate(group.parts[:place]):
            if not is_wish(part) and not is_wish(other) and at not in group.foes[place]:
                return (part, other)
    return None
