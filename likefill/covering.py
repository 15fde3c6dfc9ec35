"""Fillings that cover pairs of terms.

Where a trial is settled, all that is left under one sum is taken at once. It is first found out, by
trials of both ways, which of the parts that are no wishes fall away, and which are to be alike. Then
each choice of least rows of the parts is a trial of its own.
"""

from likefill.choices import all_choices, filling_of, pairs_of, things_of
from likefill.fillings import new_wishes, without_idle
from likefill.groups import groups_of, is_stranded, undecided
from likefill.sides import is_block
from likefill.terms import is_wish, put_in, walked
from likefill.trials import Trial, by_two, fill, settle


def covering(signs, names, pairs):
    """Fillings of the names, all wishes of the pairs, that make the two of each pair alike; the pairs are flat."""
    trials = [first_trial(names, pairs)]
    found = {}
    while trials:
        trial = trials.pop()
        if settle(signs, trial):
            if trial.under_sums:
                trials.extend(branches(signs, names, trial))
            else:
                filling = told_filling(signs, names, trial.so_far)
                found[repr(filling)] = filling
    return list(found.values())


def is_table(signs, names, pairs):
    """Whether of the fillings that covering tells of these pairs it is plain that none is another one further."""
    trial = first_trial(names, pairs)
    if not settle(signs, trial):
        return True
    groups = groups_of(signs, trial)
    # Under one sum, choices of least rows for wishes and blocks alone never lead to one another.
    return len(groups) <= 1 and all([is_wish(part) or is_block(part) for group in groups for part in group.parts])


def first_trial(names, pairs):
    """The trial that begins with nothing filled."""
    return Trial({wish: wish for wish in names}, list(pairs), [], [], 0)


def branches(signs, names, trial):
    """The trials that go on from one that is settled and has something left."""
    groups = groups_of(signs, trial)
    ready = [group for group in groups if group.loose is None]
    if any([is_stranded(signs, group) for group in ready]):
        return []
    pairs = [counted for group in ready for counted in undecided(group)]
    if pairs:
        return by_two(trial, min(pairs, key=lambda counted: counted[0])[1])
    if not ready:
        return by_two(trial, groups[0].loose)
    return by_choices(signs, names, trial, ready)


def by_choices(signs, names, trial, groups):
    """The trials that go on by the group with the fewest choices of rows."""
    best = groups[0]
    best_choices = None
    for group in groups:
        choices = all_choices(group.parts, group.sizes, group.foes, signs.nought(group.name))
        if best_choices is None or len(choices) < len(best_choices):
            best, best_choices = group, choices
    return [by_choice(signs, names, trial, best, choice) for choice in best_choices]


def by_choice(signs, names, trial, group, choice):
    """The trial that goes on by this choice of rows for the group."""
    used = trial.used + len(choice)
    things = things_of(group.parts, choice, new_wishes(used, names)[trial.used:])
    rest = [(one, other) for name, one, other in trial.under_sums if name != group.name]
    longer = Trial(trial.so_far, rest + pairs_of(group.parts, choice, things), trial.joined, trial.apart, used)
    fill(signs, longer, filling_of(group.parts, choice, things, group.name, signs.nought(group.name)))
    return longer


def told_filling(signs, names, so_far):
    """What the names are filled by, as a filling looked over, all other wishes in it named anew."""
    within = [at for term in so_far.values() for at in walked(term) if is_wish(at) and at not in names]
    beside = list({wish: True for wish in within})
    new = dict(zip(beside, new_wishes(len(beside), names)))
    return without_idle({wish: put_in(signs, new, term) for wish, term in so_far.items()})
