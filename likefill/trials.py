"""Trials: what wishes are filled by so far, and pairs of terms that are yet to be made alike.

As long as there is but one way to go on with a trial, it is gone: like fixed signs are taken
apart, and a wish is filled everywhere. What is left is to be made alike part by part under some sum.
"""

from likefill.sides import is_block
from likefill.terms import head, is_wish, order_key, put_in, walked


class Trial:
    """What the wishes asked for are filled by so far, and what is yet to be made alike.

    under_sums holds, of each pair that is left, the name of the sum and the two. Of parts of sums
    that are no wishes it is settled first which are to be alike: joined holds pairs that are, though
    they may yet look different, apart holds pairs that are not to be.
    """

    def __init__(self, so_far, pairs, joined, apart, used):
        self.so_far = so_far
        self.pairs = pairs
        self.under_sums = []
        self.joined = joined
        self.apart = apart
        self.used = used


def settle(signs, trial):
    """Go on with the trial while there is but one way; tell whether it may come to something."""
    while trial.pairs:
        one, other = trial.pairs.pop()
        if is_wish(other):
            one, other = other, one
        if one == other:
            continue
        if is_wish(one) and one not in walked(other):
            fill(signs, trial, {one: other})
        elif are_like_fixed(signs, one, other):
            trial.pairs.extend(list(zip(one[1:], other[1:])))
        else:
            name = sum_between(signs, one, other)
            if name == "":
                return False
            trial.under_sums.append((name, one, other))
    # What is both joined and apart is gone into by the trial in which the two were joined.
    return not any([stand_in(trial.joined, one) == stand_in(trial.joined, other) for one, other in trial.apart])


def are_like_fixed(signs, one, other):
    """Whether both terms are of one fixed sign with parts."""
    return not isinstance(one, str) and head(one) == head(other) and signs.nought(one[0]) is None


def sum_between(signs, one, other):
    """The sum under which two different flat terms may be made alike; "" where nothing makes them so.

    The one may be a wish that stands within the other one. Like fixed signs are taken apart before.
    """
    if is_block(one) and is_block(other):
        return ""
    if is_wish(one) and is_within_fixed(signs, one, other):
        return ""
    if head(one) == head(other):
        return head(one)
    # Of unlike signs one must fall away, and only a sum with a nought does.
    for name in (head(one), head(other)):
        if signs.nought(name) is not None and signs.nought(name) != "":
            return name
    return ""


def is_within_fixed(signs, wish, term):
    """Whether the wish stands anywhere within a part of a fixed sign."""
    fixed = [at for at in walked(term) if not isinstance(at, str) and signs.nought(at[0]) is None]
    return any([wish in walked(at) for at in fixed])


def may_be_alike(signs, one, other):
    """Whether a look at the signs and wishes of the two leaves it open that they are made alike."""
    return settle(signs, Trial({}, [(one, other)], [], [], 0))


def stand_in(joined, part):
    """The one part that stands for all that are to be alike this one."""
    if not any([part in pair for pair in joined]):
        return part
    found = [part]
    todo = [part]
    while todo:
        at = todo.pop()
        for one, other in joined:
            beside = other if at == one else one
            if at in (one, other) and beside not in found:
                found.append(beside)
                todo.append(beside)
    return min(found, key=order_key)


def left_pairs(trial):
    """All pairs of the trial that are yet to be made alike."""
    return trial.pairs + [(one, other) for name, one, other in trial.under_sums]


def fill(signs, trial, filling):
    """Put the filling's terms in everywhere in the trial; all pairs are then to be looked at again."""
    trial.so_far = {wish: put_in(signs, filling, term) for wish, term in trial.so_far.items()}
    trial.pairs = filled_pairs(signs, filling, left_pairs(trial))
    trial.under_sums = []
    trial.joined = filled_pairs(signs, filling, trial.joined)
    trial.apart = filled_pairs(signs, filling, trial.apart)


def filled_pairs(signs, filling, pairs):
    """The pairs with the filling's terms put in."""
    return [(put_in(signs, filling, one), put_in(signs, filling, other)) for one, other in pairs]


def by_two(trial, pair):
    """The trial with the two kept apart, and the trial with the two made alike."""
    pairs = left_pairs(trial)
    return [
        Trial(trial.so_far, pairs, trial.joined, trial.apart + [pair], trial.used),
        Trial(trial.so_far, pairs + [pair], trial.joined + [pair], trial.apart, trial.used),
    ]
