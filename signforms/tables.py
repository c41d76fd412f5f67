"""Tables: which signs are marks and of what rank, which stand for a row, and which of those are shut."""

from signforms.errors import NoPair, Ring, Same, TooLong, Twice

LONGEST = 16


class Table:
    def __init__(self, marks, rows, shuts):
        refuse_twice(marks, rows, shuts)
        self.rank_by_sign = dict(marks)
        self.row_by_sign = dict(rows)
        self.shut_by_sign = dict([(sign, True) for sign in shuts])
        refuse_no_pair(self.row_by_sign, shuts)
        self.sign_by_pair = signs_by_pair(self.row_by_sign, self.shut_by_sign)
        refuse_too_long(full_lengths(self.row_by_sign))

    def rank(self, sign):
        return self.rank_by_sign.get(sign, 0)

    def row(self, sign):
        return self.row_by_sign.get(sign)

    def is_shut(self, sign):
        return sign in self.shut_by_sign

    def pair(self, one, other):
        return self.sign_by_pair.get((one, other))

    def marks(self):
        return sorted(self.rank_by_sign.items())

    def rows(self):
        return sorted(self.row_by_sign.items())

    def shuts(self):
        return sorted(self.shut_by_sign)


def repeated(signs):
    seen = {}
    again = []
    for sign in signs:
        if sign in seen:
            again.append(sign)
        seen[sign] = True
    return again


def refuse_twice(marks, rows, shuts):
    # Marks and rows are looked at as one list, since a sign may not have both; a shut sign has a row anyway.
    told = [mark[0] for mark in marks] + [row[0] for row in rows]
    again = repeated(told) + repeated(shuts)
    if again:
        raise Twice(min(again))


def refuse_no_pair(row_by_sign, shuts):
    for sign in sorted(shuts):
        if len(row_by_sign.get(sign, ())) != 2:
            raise NoPair(sign)


def signs_by_pair(row_by_sign, shut_by_sign):
    found = {}
    twins = []
    # From the least sign on, so that the one found first is the lesser of two twins.
    for sign in sorted(row_by_sign):
        row = row_by_sign[sign]
        if len(row) == 2 and sign not in shut_by_sign:
            if row in found:
                twins.append((found[row], sign))
            else:
                found[row] = sign
    if twins:
        least = min(twins)
        raise Same(least[0], least[1])
    return found


def full_lengths(row_by_sign):
    lengths = {}
    waiting = sorted(row_by_sign)
    while waiting:
        held = []
        for sign in waiting:
            row = row_by_sign[sign]
            if any([part in row_by_sign and part not in lengths for part in row]):
                held.append(sign)
            else:
                lengths[sign] = sum([lengths.get(part, 1) for part in row])
        # A round in which nothing could be measured: each sign that is left waits for another one that is left.
        if held == waiting:
            raise Ring(ring_among(row_by_sign, held))
        waiting = held
    return lengths


def ring_among(row_by_sign, held):
    # The walk never ends at a bare sign, as each held sign has a held one in its row; so it comes round.
    path = [held[0]]
    while True:
        ahead = [part for part in row_by_sign[path[-1]] if part in held]
        if ahead[0] in path:
            return path[path.index(ahead[0]):]
        path.append(ahead[0])


def refuse_too_long(lengths):
    for sign in sorted(lengths):
        if lengths[sign] > LONGEST:
            raise TooLong(sign)
