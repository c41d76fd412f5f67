"""Search: where a text wanted is found, and what is found put otherwise by another text."""

from signforms.errors import Nothing
from signforms.joining import together
from signforms.ordering import apart
from signforms.pieces import bodies


def places(table, text, wanted):
    if not wanted:
        raise Nothing("a text of no signs is wanted")
    whole = apart(table, text)
    sought = apart(table, wanted)
    borders = borders_of_bodies(table, text)
    told = []
    # No mark crosses a border of bodies: so what stands between two of them is alike the text wanted just where
    # the apart form of the whole text has that of the text wanted there.
    for begin in borders:
        end = begin + len(sought)
        if end in borders and whole[begin:end] == sought:
            told.append((borders[begin], borders[end]))
    return told


def changed(table, text, wanted, by):
    whole = together(table, text)
    told = []
    ended = 0
    for begin, end in places(table, text, wanted):
        if begin >= ended:
            told.extend(whole[ended:begin] + by)
            ended = end
    return together(table, told + whole[ended:])


def borders_of_bodies(table, text):
    # From each place of the apart form where a body begins or ends, rising, to that of the together form.
    borders = {0: 0}
    apart_place = 0
    together_place = 0
    for one, other in zip(bodies(table, text, "apart"), bodies(table, text, "together")):
        apart_place += len(one)
        together_place += len(other)
        borders[apart_place] = together_place
    return borders
