"""Marks of terms: counts that never become less, whatever the terms' wishes are filled by.

A filling can be another one further only if none of its marks is above the other one's. That is
cheap to ask, and says no to most.
"""

from likefill.terms import head

MOST = 127
WIDTH = 8


def marks_of_row(signs, terms):
    """The marks of several flat terms: a dict of texts to whole numbers."""
    counts = {}
    for place, term in enumerate(terms):
        for mark, many in marks_of(signs, term).items():
            counts[f"{place}{mark}"] = many
    return counts


def marks_of(signs, term):
    """The marks of a flat term: how often things stand in it at which paths of signs that stay."""
    noughts = [nought for name, nought in signs.sums()]
    falls = any([nought != "" for nought in noughts])
    counts = {}
    todo = [("", "", term)]
    while todo:
        path, last, at = todo.pop()
        name = head(at)
        if not falls:
            # Where nothing falls away, even a wish keeps its place, or more than one thing takes it.
            counts[path] = counts.get(path, 0) + 1
        if signs.many(name) is not None and name not in noughts:
            mark = path + " " + name
            counts[mark] = counts.get(mark, 0) + 1
        if not isinstance(at, str):
            longer, under = longer_path(signs, path, last, name)
            todo.extend([(longer, under, part) for part in at[1:]])
    return counts


def longer_path(signs, path, last, name):
    """The path to the parts of what stands at the path, and the sum that it ends with, or ""."""
    nought = signs.nought(name)
    if nought is None:
        return path + "/" + name, ""
    # A sum with a nought may fall away, and a sum without one then joins one of its sign that is around it.
    if nought != "" or name == last:
        return path, last
    return path + "/" + name, name


def packed(rows):
    """Of each row, a dict of marks, one whole number, and the number of guards; see is_no_more."""
    places = {}
    for row in rows:
        for mark in row:
            places.setdefault(mark, WIDTH * len(places))
    guards = sum([(MOST + 1) << place for place in places.values()])
    return [sum([min(many, MOST) << places[mark] for mark, many in row.items()]) for row in rows], guards


def is_no_more(one, other, guards):
    """Whether no mark of the one packed row is above that of the other one."""
    # Each mark takes its guard away where it is above the other one's.
    return ((other | guards) - one) & guards == guards
