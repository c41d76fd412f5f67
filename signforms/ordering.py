"""The order of marks: where a text falls, how it is put in order, and its apart form."""

from signforms.opening import opened


def falls(table, text):
    ranks = ranks_of(table, text)
    return [place for place in range(len(ranks) - 1) if falls_at(ranks, place)]


def ordered(table, text):
    told = []
    marks = []
    for sign in text:
        if table.rank(sign) > 0:
            marks.append(sign)
        else:
            told.extend(by_rank(table, marks))
            told.append(sign)
            marks = []
    return told + by_rank(table, marks)


def exchanges(table, text):
    ranks = ranks_of(table, text)
    told = []
    # Each mark in turn goes ahead past the greater ones: so no pair is exchanged that does not fall, and none twice.
    for end in range(1, len(text)):
        place = end - 1
        while place >= 0 and falls_at(ranks, place):
            ranks.insert(place, ranks.pop(place + 1))
            told.append(place)
            place -= 1
    return told


def apart(table, text):
    return ordered(table, opened(table, text))


def ranks_of(table, text):
    return [table.rank(sign) for sign in text]


def falls_at(ranks, place):
    return ranks[place] > ranks[place + 1] > 0


def by_rank(table, marks):
    # Python's sorting leaves those of one rank in the order in which they stood.
    return sorted(marks, key=table.rank)
