"""Opening: signs put otherwise by their rows, until all are bare."""


def full(table, sign):
    return opened(table, [sign])


def once(table, text):
    told = []
    for sign in text:
        row = table.row(sign)
        if row is None:
            told.append(sign)
        else:
            told.extend(row)
    return told


def opened(table, text):
    told = []
    # The next sign waits at the end, so that what it opens into is looked at ahead of what stood behind it.
    waiting = text[::-1]
    while waiting:
        sign = waiting.pop()
        row = table.row(sign)
        if row is None:
            told.append(sign)
        else:
            waiting.extend(row[::-1])
    return told


def depth(table, text):
    times = 0
    current = text
    while any([table.row(sign) is not None for sign in current]):
        current = once(table, current)
        times += 1
    return times


def sources(table, text):
    told = []
    for place, sign in enumerate(text):
        told.extend([place] * len(full(table, sign)))
    return told
