"""Trials: what wishes are filled by so far, and pairs of terms that are yet to be made alike.

As long as there is but one way to go on with a trial, it is gone: like fixed signs are taken
apart, and a wish is filled everywhere. Pairs of like sums are then left.
"""

from likefill.sides import is_block
from likefill.terms import is_wish, order_key, put_in, walked


class Trial:
    """What the wishes asked for are filled by so far, and what is yet to be made alike.

    Of parts of sums that are no wishes it is settled first which are to be alike: joined holds
    pairs that are, though they may yet look different, apart holds pairs that are not to be.
    """

    def __init__(self, so_far, pairs, joined, apart, used):
        self.so_far = so_far
        self.pairs = pairs
        self.like_sums = []
        self.joined = joined
        self.apart = apart
        self.used = used


def settle(signs, trial):
    """Go on with the trial while there is but one way; tell whether it may come to something."""
    while trial.pairs:
        one, other = trial.pairs.pop()
        if is_wish(other):
            one, other = other, one
        if one == other:
            continue
        if is_wish(one):
            if one in walked(other):
                return False
            fill(signs, trial, {one: other})
        elif are_unlike(one, other):
            return False
        elif signs.nought(one[0]) is None:
            trial.pairs.extend(list(zip(one[1:], other[1:])))
        else:
            trial.like_sums.append((one, other))
    # What is both joined and apart is gone into by the trial in which the two were joined.
    return not any([stand_in(trial.joined, one) == stand_in(trial.joined, other) for one, other in trial.apart])


def are_unlike(one, other):
    """Whether two different flat terms, no wishes, can be told not to be made alike by their signs alone."""
    if isinstance(one, str) or isinstance(other, str) or one[0] != other[0]:
        return True
    return is_block(one) and is_block(other)


def may_be_alike(signs, one, other):
    """Whether a look at the fixed signs and wishes of the two leaves it open that they are made alike."""
    return settle(signs, Trial({}, [(one, other)], [], [], 0))


def stand_in(joined, part):
    """The one part that stands for all that are to be alike this one."""
    found = [part]
    todo = [part]
    while todo:
        at = todo.pop()
        for one, other in joined:
            beside = other if at == one else one
            if at in (one, other) and beside not in found:
                found.append(beside)
                todo.append(beside)
    return min(found, key=order_key)


def fill(signs, trial, filling):
    """Put the filling's terms in everywhere in the trial; like sums are then to be looked at again."""
    trial.so_far = {wish: put_in(signs, filling, term) for wish, term in trial.so_far.items()}
    trial.pairs = filled_pairs(signs, filling, trial.pairs + trial.like_sums)
    trial.like_sums = []
    trial.joined = filled_pairs(signs, filling, trial.joined)
    trial.apart = filled_pairs(signs, filling, trial.apart)


def filled_pairs(signs, filling, pairs):
    """The pairs with the filling's terms put in."""
    return [(put_in(signs, filling, one), put_in(signs, filling, other)) for one, other in pairs]


def by_two(trial, pair):
    """The trial with the two kept apart, and the trial with the two made alike."""
    pairs = trial.pairs + trial.like_sums
    return [
        Trial(trial.so_far, pairs, trial.joined, trial.apart + [pair], trial.used),
        Trial(trial.so_far, pairs + [pair], trial.joined + [pair], trial.apart, trial.used),
    ]
