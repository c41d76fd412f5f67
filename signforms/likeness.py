"""Alike texts, and the single steps that lead from the one to the other."""

from signforms.errors import TooMany, Unlike
from signforms.onestep import back, done
from signforms.ordering import apart, exchanges

MOST_SIGNS = 60


def alike(table, one, other):
    return apart(table, one) == apart(table, other)


def steps(table, one, other):
    refuse_unlike(apart(table, one), apart(table, other))
    # Asked here, as the way by the apart form takes a text that has steps there and back again.
    if one == other:
        return []
    return steps_to_apart(table, one) + steps_from_apart(table, other)


def refuse_unlike(one, other):
    if max(len(one), len(other)) > MOST_SIGNS:
        raise TooMany(f"an apart form has more than {MOST_SIGNS} signs")
    if one != other:
        raise Unlike(first_difference(one, other))


def first_difference(one, other):
    for place, signs in enumerate(zip(one, other)):
        if signs[0] != signs[1]:
            return place
    return min(len(one), len(other))


def steps_to_apart(table, text):
    told = []
    current = text
    place = 0
    while place < len(current):
        if table.row(current[place]) is None:
            place += 1
        else:
            told.append(("open", place))
            current = done(table, current, ("open", place))
    return told + [("swap", at) for at in exchanges(table, current)]


def steps_from_apart(table, text):
    told = []
    current = text
    for step in steps_to_apart(table, text):
        told.append(back(table, current, step))
        current = done(table, current, step)
    return told[::-1]
