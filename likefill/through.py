"""A third filling by which one filling, further, is another one."""

from likefill.fillings import looked_over, without_idle
from likefill.frozen import frozen, thawed
from likefill.matching import matches


def through(signs, one, other, wishes):
    """A filling such that each of the wishes, filled by the one and then by it, is the wish filled by the other."""
    first = looked_over(signs, one)
    second = looked_over(signs, other)
    pairs = [(first.get(wish, wish), frozen(signs, second.get(wish, wish))) for wish in wishes]
    for filling in matches(signs, pairs, True):
        return without_idle({wish: thawed(signs, term) for wish, term in filling.items()})
    return None
