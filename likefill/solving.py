"""Fillings that cover two terms, where no sum has a nought.

Where a trial is settled, all pairs of like sums of one sign are taken at once. Of their parts
that are no wishes it is first found out, by trials of both ways, which are to be alike. Then each
choice of least rows of the parts is a trial of its own.
"""

from likefill.choices import all_choices, filling_of, pairs_of, sized_parts, things_of
from likefill.errors import NoSigns
from likefill.fillings import new_wishes, without_idle
from likefill.limits import check_not_too_much, wishes_of
from likefill.terms import flat, is_wish, put_in, walked
from likefill.trials import Trial, by_two, fill, may_be_alike, settle, stand_in


class Group:
    """The parts of all like sums of one sign in a trial, their sizes, and for each the places of its foes."""

    def __init__(self, name, parts, sizes, foes):
        self.name = name
        self.parts = parts
        self.sizes = sizes
        self.foes = foes


def solved(signs, one, other):
    """Fillings that cover the two terms, where no sum has a nought."""
    terms = [flat(signs, one), flat(signs, other)]
    check_not_too_much(signs, terms)
    if any([nought != "" for name, nought in signs.sums()]):
        raise NoSigns("a sum has a nought")
    names = wishes_of(terms)
    trials = [Trial({wish: wish for wish in names}, [(terms[0], terms[1])], [], [], 0)]
    found = {}
    while trials:
        trial = trials.pop()
        if settle(signs, trial):
            if trial.like_sums:
                trials.extend(branches(signs, names, trial))
            else:
                filling = told_filling(signs, names, trial.so_far)
                found[repr(filling)] = filling
    return list(found.values())


def branches(signs, names, trial):
    """The trials that go on from one that is settled and has like sums."""
    groups = groups_of(signs, trial)
    if any([is_stranded(group) for group in groups]):
        return []
    for group in groups:
        pair = undecided(group)
        if pair is not None:
            return by_two(trial, pair)
    return by_choices(signs, names, trial, groups)


def groups_of(signs, trial):
    """The groups of the trial's like sums, one for each sign."""
    by_name = {}
    for one, other in trial.like_sums:
        left, right = [[stand_in(trial.joined, part) for part in term[1:]] for term in (one, other)]
        by_name.setdefault(one[0], []).append((left, right))
    apart = [(stand_in(trial.joined, one), stand_in(trial.joined, other)) for one, other in trial.apart]
    groups = []
    for name, pairs in by_name.items():
        parts, sizes = sized_parts(pairs)
        foes = [[at for at, other in enumerate(parts) if are_foes(signs, apart, part, other)] for part in parts]
        groups.append(Group(name, parts, sizes, foes))
    return groups


def are_foes(signs, apart, part, other):
    """Whether no one thing can go into both parts; of a part and itself, whether it gets but one thing."""
    if is_wish(part) and is_wish(other):
        return False
    if part == other or (part, other) in apart or (other, part) in apart:
        return True
    return not may_be_alike(signs, part, other)


def is_stranded(group):
    """Whether a part can share nothing with any part on the other side of an equation."""
    for place, size in enumerate(group.sizes):
        for number, own in enumerate(size):
            across = [at for at, other in enumerate(group.sizes) if own * other[number] < 0]
            if own != 0 and all([at in group.foes[place] for at in across]):
                return True
    return False


def undecided(group):
    """Two of the group's parts, no wishes, of which it is open whether they are to be alike; or None."""
    for place, part in enumerate(group.parts):
        for at, other in enumerate(group.parts[:place]):
            if not is_wish(part) and not is_wish(other) and at not in group.foes[place]:
                return (part, other)
    return None


def by_choices(signs, names, trial, groups):
    """The trials that go on by the group with the fewest choices of rows."""
    best = groups[0]
    best_choices = None
    for group in groups:
        choices = all_choices(group.parts, group.sizes, group.foes, "")
        if best_choices is None or len(choices) < len(best_choices):
            best, best_choices = group, choices
    return [by_choice(signs, names, trial, best, choice) for choice in best_choices]


def by_choice(signs, names, trial, group, choice):
    """The trial that goes on by this choice of rows for the group."""
    used = trial.used + len(choice)
    things = things_of(group.parts, choice, new_wishes(used, names)[trial.used:])
    rest = [(one, other) for one, other in trial.like_sums if one[0] != group.name]
    longer = Trial(trial.so_far, rest + pairs_of(group.parts, choice, things), trial.joined, trial.apart, used)
    fill(signs, longer, filling_of(group.parts, choice, things, group.name, ""))
    return longer


def told_filling(signs, names, so_far):
    """What the names are filled by, as a filling looked over, all other wishes in it named anew."""
    within = [at for term in so_far.values() for at in walked(term) if is_wish(at) and at not in names]
    beside = list({wish: True for wish in within})
    new = dict(zip(beside, new_wishes(len(beside), names)))
    return without_idle({wish: put_in(signs, new, term) for wish, term in so_far.items()})
