"""Single steps on terms that stand with two parts in each sum."""

from likefill.errors import NoStep
from likefill.signs import is_whole
from likefill.terms import check_term, from_within


def in_pairs(signs, name, parts):
    """The term of that name and of these parts, with two parts in each sum of the name."""
    if signs.nought(name) is None:
        return tuple([name] + parts)
    whole = parts[-1]
    for part in parts[-2::-1]:
        whole = (name, part, whole)
    return whole


def paired(signs, term):
    """The term with two parts in each sum, else as it stands."""
    check_term(signs, term)
    return from_within(term, {}, lambda name, parts: in_pairs(signs, name, parts))


def is_sum(name, term):
    """Whether the term is a sum of that name."""
    return isinstance(term, tuple) and term[0] == name


# Each of the five tells what stands there behind the step, or None where it can't be done.


def turned(name, nought, at):
    """(S, a, b) to (S, b, a)."""
    return (name, at[2], at[1]) if is_sum(name, at) else None


def leftward(name, nought, at):
    """(S, a, (S, b, c)) to (S, (S, a, b), c)."""
    if not is_sum(name, at) or not is_sum(name, at[2]):
        return None
    return (name, (name, at[1], at[2][1]), at[2][2])


def rightward(name, nought, at):
    """(S, (S, a, b), c) to (S, a, (S, b, c))."""
    if not is_sum(name, at) or not is_sum(name, at[1]):
        return None
    return (name, at[1][1], (name, at[1][2], at[2]))


def dropped(name, nought, at):
    """(S, a, n) to a."""
    return at[1] if is_sum(name, at) and at[2] == nought else None


def added(name, nought, at):
    """a to (S, a, n)."""
    return (name, at, nought) if nought != "" else None


DEEDS = {"turn": turned, "left": leftward, "right": rightward, "drop": dropped, "add": added}


def check_step(signs, thing):
    """Refuse what is no step, whatever it is to be done on."""
    if not isinstance(thing, (list, tuple)) or len(thing) != 3:
        raise NoStep("a step is a kind, a place and a sum")
    kind, place, name = thing
    if not isinstance(kind, str) or kind not in DEEDS:
        raise NoStep("there is no such kind of step")
    if not isinstance(place, (list, tuple)) or not all([is_whole(part) for part in place]):
        raise NoStep("a place is a tuple of whole numbers")
    if signs.nought(name) is None:
        raise NoStep("a step names a sum")


def way_to(term, place):
    """The term, its part that the place leads to first, and so on, up to what stands at the place."""
    way = [term]
    for number in place:
        at = way[-1]
        if isinstance(at, str) or not 0 <= number < len(at) - 1:
            raise NoStep("there is no such place")
        way.append(at[number + 1])
    return way


def done(signs, term, step):
    """The term, paired, with the step done on it."""
    whole = paired(signs, term)
    check_step(signs, step)
    kind, place, name = step
    way = way_to(whole, place)
    deed = DEEDS[kind]
    changed = deed(name, signs.nought(name), way[-1])
    if changed is None:
        raise NoStep("this step can't be done there")
    for number, above in zip(place[::-1], way[-2::-1]):
        changed = above[:number + 1] + (changed,) + above[number + 2:]
    return changed
