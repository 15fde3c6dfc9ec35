"""Groups: all that is to be made alike under one sum in a trial, taken at once."""

from likefill.choices import sized_parts
from likefill.lists import first_of
from likefill.sides import parts_of_flat
from likefill.solid import are_apart, loose_pair
from likefill.terms import head, is_wish, walked
from likefill.trials import may_be_alike, stand_in


class Group:
    """The parts under one sum in a trial, and their sizes.

    loose is a wish and a nought of which it must be known first whether they are alike, or None;
    where it is None, foes has for each part the places of its foes.
    """

    def __init__(self, name, parts, sizes, loose):
        self.name = name
        self.parts = parts
        self.sizes = sizes
        self.loose = loose
        self.foes = []


def groups_of(signs, trial):
    """The groups of a settled trial, one for each sum."""
    by_name = {}
    for name, one, other in trial.under_sums:
        sides = [parts_of_flat(signs, name, term) for term in (one, other)]
        left, right = [[stand_in(trial.joined, part) for part in side] for side in sides]
        by_name.setdefault(name, []).append((left, right))
    apart = [(stand_in(trial.joined, one), stand_in(trial.joined, other)) for one, other in trial.apart]
    groups = []
    for name, pairs in by_name.items():
        parts, sizes = sized_parts(pairs)
        groups.append(Group(name, parts, sizes, first_of([loose_pair(signs, apart, part) for part in parts])))
    for group in groups:
        if group.loose is None:
            group.foes = [foes_of(signs, apart, group.parts, part) for part in group.parts]
    return groups


def foes_of(signs, apart, parts, part):
    """The places of the part's foes among the parts."""
    return [place for place, other in enumerate(parts) if are_foes(signs, apart, part, other)]


def are_foes(signs, apart, part, other):
    """Whether no one thing can go into both parts; of a part and itself, whether it gets but one thing.

    Parts that are no wishes keep their signs.
    """
    if is_wish(part) and is_wish(other):
        return False
    if is_wish(part) or is_wish(other):
        return part in walked(other) or other in walked(part)
    if part == other or are_apart(apart, part, other):
        return True
    return head(part) != head(other) or not may_be_alike(signs, part, other)


def partners(group, place, number):
    """The places of parts across in that equation that may share something with the part at the place."""
    own = group.sizes[place][number]
    across = [at for at, size in enumerate(group.sizes) if own * size[number] < 0]
    return [at for at in across if at not in group.foes[place]]


def is_stranded(signs, group):
    """Whether a part that must get something can share nothing with any part across in an equation."""
    for place, size in enumerate(group.sizes):
        if signs.nought(group.name) == "" or not is_wish(group.parts[place]):
            for number, own in enumerate(size):
                if own != 0 and not partners(group, place, number):
                    return True
    return False


def undecided(group):
    """All pairs of the group's parts, no wishes, of which it is open whether they are to be alike.

    Beside each stands a number: the fewer partners one of the two has, the sooner is it told by the other ones.
    """
    found = []
    for place, part in enumerate(group.parts):
        for at, other in enumerate(group.parts):
            if at not in group.foes[place] and not is_wish(part) and not is_wish(other):
                across = [number for number, own in enumerate(group.sizes[place]) if own * group.sizes[at][number] < 0]
                counts = [len(partners(group, place, number)) for number in across]
                found.append((min(counts, default=len(group.parts)), (part, other)))
    return found
