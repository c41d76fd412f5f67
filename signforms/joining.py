"""Putting together: the together form of a text, and the signs that are formed."""

from signforms.ordering import apart


def together(table, text):
    told = []
    holder = None
    for sign in apart(table, text):
        made = taken(table, told, holder, sign)
        if made is not None:
            told[holder] = made
        else:
            if is_ground(table, sign):
                holder = len(told)
            told.append(sign)
    return told


def formed(table, sign):
    return together(table, [sign]) == [sign]


def form_of(table, text, form):
    return apart(table, text) if form == "apart" else together(table, text)


def is_ground(table, sign):
    return table.row(sign) is None and table.rank(sign) == 0


def taken(table, signs, holder, sign):
    # The pair that takes the holder's place, or None where the sign is to be put at the end.
    if is_free(table, signs, holder, sign):
        return table.pair(signs[holder], sign)
    return None


def is_free(table, signs, holder, sign):
    if holder is None:
        return False
    return holder == len(signs) - 1 or table.rank(signs[-1]) < table.rank(sign)
