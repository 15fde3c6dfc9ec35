"""Terms: what one is, its flat form, its leaves and wishes, and the order of flat terms.

Terms are walked with a list of what is yet to do, never by calls within calls: how deep
a term is nested is then no matter.
"""

from likefill.errors import NoTerm

WISH_SIGNS = "abcdefghijklmnopqrstuvwxyz0123456789"
LONGEST_WISH = 9

# A list that holds itself is nested without end and can be told by that alone. No term that
# anything is promised of comes near this depth.
DEEPEST = 1000


def is_wish(thing):
    """Whether the thing is a wish: "?" and one to eight letters a to z and figures."""
    if not isinstance(thing, str) or not 2 <= len(thing) <= LONGEST_WISH:
        return False
    return thing[0] == "?" and all([sign in WISH_SIGNS for sign in thing[1:]])


def is_built(signs, thing):
    """Whether the thing is a term if its parts are terms."""
    if isinstance(thing, str):
        return is_wish(thing) or signs.many(thing) == 0
    if not isinstance(thing, (list, tuple)) or len(thing) < 2:
        return False
    if signs.nought(thing[0]) is not None:
        return len(thing) >= 3
    return signs.many(thing[0]) == len(thing) - 1


def check_term(signs, thing):
    """Refuse what is no term."""
    todo = [(thing, 0)]
    while todo:
        at, depth = todo.pop()
        if depth > DEEPEST or not is_built(signs, at):
            raise NoTerm("this is no term of these signs")
        if not isinstance(at, str):
            todo.extend([(part, depth + 1) for part in at[:0:-1]])


def is_term(signs, thing):
    """Whether the thing is a term."""
    try:
        check_term(signs, thing)
    except NoTerm:
        return False
    return True


def walked(term):
    """The term and all terms within it, each ahead of its parts, these in their order."""
    found = []
    todo = [term]
    while todo:
        at = todo.pop()
        found.append(at)
        if not isinstance(at, str):
            todo.extend(at[:0:-1])
    return found


def order_mark(term):
    """What the order asks of the term itself, its parts left aside."""
    if isinstance(term, str):
        return (0 if term[0] == "?" else 1, term, 0)
    return (2, term[0], len(term))


def order_key(term):
    """A list by which terms compare as the order of flat terms has it."""
    # Two walks go through like terms up to the first place where the terms differ, so
    # comparing marks one by one compares the parts one by one.
    if isinstance(term, str):
        return [order_mark(term)]
    return [order_mark(at) for at in walked(term)]


def head(term):
    """The name of the term's sign; a wish is its own."""
    return term if isinstance(term, str) else term[0]


def opened(name, term):
    """The parts of a flat term that is the sum of that name; of any other it alone."""
    if isinstance(term, tuple) and term[0] == name:
        return list(term[1:])
    return [term]


def flat_sum(name, nought, parts):
    """The flat form of a sum whose parts are flat."""
    left = []
    for part in parts:
        if part != nought:
            left.extend(opened(name, part))
    if not left:
        return nought
    if len(left) == 1:
        return left[0]
    return tuple([name] + sorted(left, key=order_key))


def flat_of_parts(signs, name, parts):
    """The flat form of the term of that name whose parts are flat."""
    nought = signs.nought(name)
    if nought is None:
        return tuple([name] + parts)
    return flat_sum(name, nought, parts)


def from_within(term, filling, whole):
    """What is made of the term, parts first: whole(name, parts) of a name and what its parts became.

    A wish that the filling has becomes the filling's term; every other text stays.
    """
    made = []
    # Walked backwards, all parts are made ahead of their whole, the first part last.
    for at in reversed(walked(term)):
        if isinstance(at, str):
            made.append(filling.get(at, at))
        else:
            parts = [made.pop() for part in at[1:]]
            made.append(whole(at[0], parts))
    return made[0]


def put_in(signs, filling, term):
    """The flat form of the term with its wishes filled; all terms of the filling are flat."""
    return from_within(term, filling, lambda name, parts: flat_of_parts(signs, name, parts))


def flat(signs, term):
    """The flat form of the term."""
    check_term(signs, term)
    return put_in(signs, {}, term)


def flat_key(signs, term):
    """The order key of the term's flat form."""
    return order_key(flat(signs, term))


def alike(signs, one, other):
    """Whether the flat forms of the two terms are the same."""
    return flat_key(signs, one) == flat_key(signs, other)


def is_ahead(signs, one, other):
    """Whether the flat form of the one term is ahead of that of the other one."""
    return flat_key(signs, one) < flat_key(signs, other)


def leaves(signs, term):
    """How many leaves the term has as it stands."""
    check_term(signs, term)
    return len([at for at in walked(term) if isinstance(at, str)])


def wishes(signs, term):
    """The wishes of the term, each once, as texts are ordered."""
    check_term(signs, term)
    return sorted({at for at in walked(term) if is_wish(at)})
