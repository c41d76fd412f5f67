"""Borders: two texts in form joined."""

from signforms.errors import NotFormed
from signforms.joining import form_of
from signforms.looks import opening_places


def joined(table, one, other, form):
    refuse_not_formed(table, one, other, form)
    right = min(opening_places(table, other), default=len(other))
    left = len(one) if right == 0 else max(opening_places(table, one), default=0)
    # Nothing reaches across a sign that opens, so the form is made of the border alone.
    border = form_of(table, one[left:] + other[:right], form)
    return (one[:left] + border + other[right:], left, right)


def refuse_not_formed(table, one, other, form):
    for which, text in enumerate((one, other)):
        if form_of(table, text, form) != text:
            raise NotFormed(which)
