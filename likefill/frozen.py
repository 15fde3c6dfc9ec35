"""Terms whose wishes stay as they are: each is frozen to a sign that no signs have, and thawed later."""

from likefill.limits import wishes_of
from likefill.terms import put_in, walked

ICE = "!"


def frozen(signs, term):
    """The flat term with its wishes frozen, flat then."""
    return put_in(signs, {wish: ICE + wish for wish in wishes_of([term])}, term)


def thawed(signs, term):
    """The flat term with its frozen wishes thawed, flat then."""
    return put_in(signs, {at: at[1:] for at in walked(term) if isinstance(at, str) and at[0] == ICE}, term)
