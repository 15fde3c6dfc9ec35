"""Terms written as texts, and read from them."""

from likefill.errors import NoText
from likefill.terms import check_term, is_term


def write(signs, term):
    """The term as it stands, written."""
    check_term(signs, term)
    said = []
    todo = [term]
    while todo:
        at = todo.pop()
        if isinstance(at, str):
            said.append(at)
        else:
            todo.extend(pieces(at)[::-1])
    return "".join(said)


def pieces(term):
    """What is written for a term with parts, in order: texts, and the parts themselves."""
    found = [term[0], "("]
    for part in term[1:]:
        found.extend([part, ","])
    found[-1] = ")"
    return found


def read(signs, text):
    """The term that is so written, of texts and tuples."""
    if not isinstance(text, str):
        raise NoText("only a text can be read")
    found = unbracketed(text)
    if not is_term(signs, found):
        raise NoText("this is no written term of these signs")
    return found


def unbracketed(text):
    """What the text's brackets and commas make of the words between, or None.

    Each word stays as it is written, blanks and all: whether it is a sign or a wish is
    for the asker to find out.
    """
    opened = []
    latest = ""
    for sign in text:
        if sign in ",)":
            if not opened:
                return None
            opened[-1].append(latest)
            latest = tuple(opened.pop()) if sign == ")" else ""
        elif not isinstance(latest, str):
            # Behind a closed bracket only a comma or another closing one may stand.
            return None
        elif sign == "(":
            opened.append([latest])
            latest = ""
        else:
            latest += sign
    return None if opened else latest
