"""Fillings: dicts of wishes to terms, looked over, put in, and put together."""

from likefill.errors import NoFilling
from likefill.terms import check_term, is_term, is_wish, put_in


def check_filling(signs, thing):
    """Refuse what is no filling."""
    if not isinstance(thing, dict):
        raise NoFilling("a filling is a dict")
    for wish, term in thing.items():
        if not is_wish(wish):
            raise NoFilling("a filling fills wishes alone")
        if not is_term(signs, term):
            raise NoFilling(f"what the filling has for {wish} is no term of these signs")


def without_idle(filling):
    """The filling without the wishes that it fills by themselves; its terms are flat."""
    return {wish: term for wish, term in filling.items() if term != wish}


def looked_over(signs, filling):
    """The filling with flat terms, without the wishes that it then fills by themselves."""
    check_filling(signs, filling)
    return without_idle({wish: put_in(signs, {}, term) for wish, term in filling.items()})


def filled(signs, filling, term):
    """The flat form of the term, the filling's terms in the places of their wishes, all at once."""
    looked = looked_over(signs, filling)
    check_term(signs, term)
    return put_in(signs, looked, term)


def further(signs, one, other):
    """The filling that fills each term as the one does and then the other one, looked over."""
    first = looked_over(signs, one)
    second = looked_over(signs, other)
    both = dict(second)
    both.update({wish: put_in(signs, second, term) for wish, term in first.items()})
    return without_idle(both)


def kept(signs, filling, some):
    """The filling with just some of its wishes, looked over."""
    looked = looked_over(signs, filling)
    return {wish: term for wish, term in looked.items() if wish in some}


def new_wishes(many, some):
    """So many of the wishes "?1", "?2" and so on, in order, those among some left out."""
    found = []
    number = 1
    while len(found) < many:
        wish = f"?{number}"
        if wish not in some:
            found.append(wish)
        number += 1
    return found
