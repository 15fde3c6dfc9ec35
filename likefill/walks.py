"""Walks: rows of single steps that lead from one term to another one that is alike."""

from likefill.steps import paired
from likefill.terms import flat_of_parts, opened, order_key

BACK = {"turn": "turn", "left": "right", "right": "left", "drop": "add", "add": "drop"}


def walk(signs, one, other):
    """A list of steps that leads from the one, paired, to the other, paired; None if none does."""
    there, one_flat = led_to_flat(signs, one)
    back, other_flat = led_to_flat(signs, other)
    if one_flat != other_flat:
        return None
    # What both would do last need not be done and undone again.
    while there and back and there[-1] == back[-1]:
        there.pop()
        back.pop()
    return there + [(BACK[kind], place, name) for kind, place, name in reversed(back)]


def led_to_flat(signs, term):
    """The steps that lead from the term, paired, to its flat form, paired; and the flat form."""
    steps = []
    made = []
    for place, at in reversed(placed(paired(signs, term))):
        if isinstance(at, str):
            made.append(at)
        else:
            name = at[0]
            parts = [made.pop() for part in at[1:]]
            made.append(flat_of_parts(signs, name, parts))
            if signs.nought(name) is not None:
                steps.extend(steps_of_sum(name, signs.nought(name), place, parts))
    return steps, made[0]


def placed(term):
    """The places in the term, each with what stands there, each ahead of those within it."""
    found = []
    todo = [((), term)]
    while todo:
        place, at = todo.pop()
        found.append((place, at))
        if not isinstance(at, str):
            within = [(place + (number,), part) for number, part in enumerate(at[1:])]
            todo.extend(within[::-1])
    return found


def steps_of_sum(name, nought, place, parts):
    """The steps that make flat, paired, the sum of two parts that are so already."""
    one, other = parts
    if other == nought:
        return [("drop", place, name)]
    if one == nought:
        return [("turn", place, name), ("drop", place, name)]
    front = opened(name, one)
    behind = opened(name, other)
    steps = [("right", place + (1,) * number, name) for number in range(len(front) - 1)]
    for number in reversed(range(len(front))):
        steps.extend(steps_inward(name, place + (1,) * number, front[number], behind))
        behind = behind + [front[number]]
    return steps


def steps_inward(name, place, moved, behind):
    """The steps that bring what stands first at the place to where it belongs.

    All that stands behind it there is in order; it is handed in in any order.
    """
    steps = []
    key = order_key(moved)
    many = len([part for part in behind if order_key(part) < key])
    for number in range(many):
        at = place + (1,) * number
        if number == len(behind) - 1:
            steps.append(("turn", at, name))
        else:
            steps.extend([("left", at, name), ("turn", at + (0,), name), ("right", at, name)])
    return steps
