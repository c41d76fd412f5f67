"""Pieces: a text in form cut into bodies, and cut between them by rules."""

from signforms.joining import form_of
from signforms.looks import first_of_full, opening_places


def bodies(table, text, form):
    whole = form_of(table, text, form)
    # The first sign begins a body, also where it doesn't open.
    begins = [0] + opening_places(table, whole)
    ends = begins[1:] + [len(whole)]
    # Nothing lies behind the first 0 where the first sign opens, or where there is none.
    return [whole[begin:end] for begin, end in zip(begins, ends) if begin < end]


def pieces(table, rules, text, form):
    found = bodies(table, text, form)
    kinds = [rules.kind(first_of_full(table, body[0])) for body in found]
    told = []
    for place, body in enumerate(found):
        if place > 0 and rules.keeps(kinds[:place], kinds[place:]):
            told[-1].extend(body)
        else:
            told.append(list(body))
    return told
