"""Quick looks: signs that hang, stop or open, and whether a text seems to be in form."""

from signforms.joining import formed, is_ground
from signforms.opening import full
from signforms.ordering import falls


def hanger(table, sign):
    return any([row[1:] == (sign,) and formed(table, made) for made, row in table.rows()])


def stop(table, sign):
    return is_ground(table, sign) and not hanger(table, sign)


def opens(table, sign):
    return stop(table, first_of_full(table, sign))


def opening_places(table, text):
    # Each sign is looked at once, however often it stands in the text: hangers are told by the whole table.
    opening = dict([(sign, opens(table, sign)) for sign in sorted(set(text))])
    return [place for place, sign in enumerate(text) if opening[sign]]


def quick(table, text, form):
    return quick_apart(table, text) if form == "apart" else quick_together(table, text)


def quick_apart(table, text):
    if falls(table, text) or any([table.row(sign) is not None for sign in text]):
        return "no"
    return "yes"


def quick_together(table, text):
    if falls(table, text) or not all([formed(table, sign) for sign in text]):
        return "no"
    # Such a sign may be taken by a holder ahead of it; to tell whether it is, the form has to be made.
    if any([hanger(table, first_of_full(table, sign)) for sign in text]):
        return "maybe"
    return "yes"


def first_of_full(table, sign):
    return full(table, sign)[0]
