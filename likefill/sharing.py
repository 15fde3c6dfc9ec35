"""How things are shared among wishes, alike things by how many of them each wish gets.

Each wish has its sizes, how often it stands on the one side of each equation, and each thing its
goals, how often it stands on the other sides. What a thing's count for each wish is, is a row.
"""

from likefill.choices import gives_each


def rows_for(sizes, goals):
    """All rows by which one thing with these goals is shared."""
    found = [((), tuple(goals))]
    for size in sizes:
        longer = []
        for row, left in found:
            longer.extend(longer_rows(row, left, size))
        found = longer
    return [row for row, left in found if not any(left)]


def one_row_for(sizes, goals):
    """A row by which one thing with these goals is shared, or None."""
    tried = {}
    todo = [((), tuple(goals))]
    while todo:
        row, left = todo.pop()
        if len(row) == len(sizes):
            if not any(left):
                return row
        elif (len(row), left) not in tried:
            tried[(len(row), left)] = True
            todo.extend(longer_rows(row, left, sizes[len(row)]))
    return None


def longer_rows(row, left, size):
    """The row with each count for one wish more, and what is then left of the goals."""
    found = []
    while all([goal >= 0 for goal in left]):
        found.append((row + (len(found),), left))
        left = tuple([goal - own for goal, own in zip(left, size)])
    return found


def all_sharings(sizes, goals, may_be_none):
    """All lists of rows, one for each of the things, in which each wish gets something, unless it may be none."""
    found = [[]]
    for goal in goals:
        rows = rows_for(sizes, goal)
        found = [rows_so_far + [row] for rows_so_far in found for row in rows]
    if may_be_none:
        return found
    return [rows for rows in found if gives_each(rows, len(sizes))]


def one_sharing(sizes, goals, may_be_none):
    """A list of one list of rows such as all_sharings tells, or of none where there is none."""
    if any([one_row_for(sizes, goal) is None for goal in goals]):
        return []
    firsts = [None for size in sizes] if may_be_none else first_things(sizes, goals)
    if firsts is None:
        return []
    sharing = []
    for thing, goal in enumerate(goals):
        given = [1 if first == thing else 0 for first in firsts]
        left = list(goal)
        for many, size in zip(given, sizes):
            left = [own - many * part for own, part in zip(left, size)]
        sharing.append([own + more for own, more in zip(given, one_row_for(sizes, left))])
    return [sharing]


def first_things(sizes, goals):
    """For each wish the place of a thing of which it may get one, so that the rest can be shared yet; or None."""
    # What the things are doesn't matter, only what is left of their goals; so few cases differ.
    tried = {}
    todo = [([], list(goals))]
    while todo:
        firsts, left = todo.pop()
        if len(firsts) == len(sizes):
            return firsts
        case = (len(firsts), tuple(sorted(left)))
        if case not in tried:
            tried[case] = True
            todo.extend(with_next_first(firsts, left, sizes))
    return None


def with_next_first(firsts, left, sizes):
    """The first things with one for the next wish, and what is left of the goals then."""
    found = []
    for place, goal in enumerate(left):
        rest = tuple([own - part for own, part in zip(goal, sizes[len(firsts)])])
        if goal not in left[:place] and one_row_for(sizes, rest) is not None:
            found.append((firsts + [place], left[:place] + [rest] + left[place + 1:]))
    return found
