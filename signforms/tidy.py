"""Tables looked through: rows that are lost, shut signs that are idle, and the least table."""

from signforms.errors import Same
from signforms.joining import formed, together
from signforms.tables import Table


def lost(table):
    return [(sign, together(table, [sign])) for sign, row in table.rows() if is_lost(table, sign, row)]


def idle(table):
    return [sign for sign in table.shuts() if is_idle(table, sign)]


def least(table):
    current = table
    for sign in table.shuts():
        if is_idle(current, sign):
            current = without_shut(current, sign)
    return Table(least_marks(table), table.rows(), current.shuts())


def is_lost(table, sign, row):
    return len(row) == 2 and not table.is_shut(sign) and not formed(table, sign)


def is_idle(table, sign):
    # Of a table that is made already, no more can be refused than a second sign with the same row.
    try:
        tried = without_shut(table, sign)
    except Same:
        return False
    return not formed(tried, sign)


def without_shut(table, sign):
    return Table(table.marks(), table.rows(), [other for other in table.shuts() if other != sign])


def least_marks(table):
    marks = table.marks()
    ranks = sorted(set([rank for sign, rank in marks]))
    return [(sign, ranks.index(rank) + 1) for sign, rank in marks]
