"""The writing of a table, read and shown."""

from signforms.errors import NoRow
from signforms.tables import Table

FIGURES = "0123456789"
MOST_FIGURES = 60
GREATEST_RANK = 999


def read(writing):
    marks = []
    rows = []
    shuts = []
    for at, line in enumerate(written_rows(writing), start=1):
        words = line.split(" ")
        if is_mark_row(words):
            marks.append((int(words[1]), int(words[2])))
        elif is_sign_row(words):
            rows.append((int(words[0]), tuple([int(word) for word in words[2:]])))
        elif is_shut_row(words):
            shuts.append(int(words[1]))
        else:
            raise NoRow(at)
    return Table(marks, rows, shuts)


def shown(table):
    marks = [f"mark {sign} {rank}\n" for sign, rank in table.marks()]
    rows = [shown_row(sign, row) for sign, row in table.rows()]
    shuts = [f"shut {sign}\n" for sign in table.shuts()]
    return "".join(marks + rows + shuts)


def shown_row(sign, row):
    parts = " ".join([str(part) for part in row])
    return f"{sign} is {parts}\n"


def written_rows(writing):
    rows = writing.split("\n")
    # What stands behind the last line feed is no row where it has no signs; so the writing without signs has none.
    if rows[-1] == "":
        rows.pop()
    return rows


def is_mark_row(words):
    return len(words) == 3 and words[0] == "mark" and is_sign(words[1]) and is_rank(words[2])


def is_sign_row(words):
    if len(words) not in (3, 4) or words[1] != "is":
        return False
    return all([is_sign(word) for word in words[:1] + words[2:]])


def is_shut_row(words):
    return len(words) == 2 and words[0] == "shut" and is_sign(words[1])


def is_sign(word):
    # The length is asked first: Python itself refuses to read figures without bound.
    if word == "" or len(word) > MOST_FIGURES:
        return False
    return all([sign in FIGURES for sign in word]) and (word == "0" or word[0] != "0")


def is_rank(word):
    return is_sign(word) and 1 <= int(word) <= GREATEST_RANK
