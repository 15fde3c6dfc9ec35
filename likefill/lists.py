"""Small doings with lists whose things can only be compared."""


def each_once(things):
    """The different ones of the things, in order."""
    return [thing for place, thing in enumerate(things) if thing not in things[:place]]


def less(things, taken):
    """The things without those that are taken, or None where these are not all there."""
    left = list(things)
    for thing in taken:
        if thing not in left:
            return None
        left.remove(thing)
    return left


def without(things, thing):
    """The things without this one, however often it is there."""
    return [other for other in things if other != thing]


def first_of(things):
    """The first of the things that is not None, or None."""
    for thing in things:
        if thing is not None:
            return thing
    return None
