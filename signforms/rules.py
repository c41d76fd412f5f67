"""Rules: of which kind bodies are, and between which of them a text is kept whole or cut."""

from signforms.errors import Double, NoKind, NoRow
from signforms.reading import is_sign, written_rows

LETTERS = "abcdefghijklmnopqrstuvwxyz"
MOST_LETTERS = 8
MOST_WORDS = 3
OWN_WORDS = ("any", "edge", "other")


class Rules:
    def __init__(self, kinds, verdicts):
        self.kind_by_sign = dict(kinds)
        # Tuples (keep or cut, words ahead, words behind), the words on either side from the nearest on.
        self.verdicts = list(verdicts)

    def kind(self, sign):
        return self.kind_by_sign.get(sign, "other")

    def reach(self):
        return max([max(len(ahead), len(behind)) for told, ahead, behind in self.verdicts], default=0)

    def keeps(self, left, right):
        for told, ahead, behind in self.verdicts:
            if side_fits(ahead, left[::-1]) and side_fits(behind, right):
                return told == "keep"
        return False


def side_fits(words, kinds):
    return all([word_fits(word, kinds, place) for place, word in enumerate(words)])


def word_fits(word, kinds, place):
    # Beyond the last kind there is no body any more, and nothing but an edge is there.
    if place >= len(kinds):
        return word == "edge"
    return word == "any" or word == kinds[place]


def read_rules(writing):
    rows = [line.split(" ") for line in written_rows(writing)]
    refuse_no_row(rows)
    refuse_double(rows)
    refuse_no_kind(rows)
    kinds = []
    for row in kind_rows(rows):
        kinds.extend([(int(word), row[1]) for word in row[2:]])
    return Rules(kinds, [verdict(row) for row in rows if row[0] != "kind"])


def kind_rows(rows):
    return [row for row in rows if row[0] == "kind"]


def verdict(row):
    bar = row.index("|")
    return (row[0], row[1:bar][::-1], row[bar + 1:])


def refuse_no_row(rows):
    for at, row in enumerate(rows, start=1):
        if not is_kind_row(row) and not is_verdict_row(row):
            raise NoRow(at)


def refuse_double(rows):
    # Words and signs are kept as they are written: no word is written like a sign, and each sign in one way alone.
    told = list(OWN_WORDS)
    for at, row in enumerate(rows, start=1):
        if row[0] == "kind":
            for word in row[1:]:
                if word in told:
                    raise Double(at)
                told.append(word)


def refuse_no_kind(rows):
    known = list(OWN_WORDS) + [row[1] for row in kind_rows(rows)] + ["|"]
    for at, row in enumerate(rows, start=1):
        if row[0] != "kind" and any([word not in known for word in row[1:]]):
            raise NoKind(at)


def is_kind_row(row):
    return row[0] == "kind" and len(row) > 2 and is_word(row[1]) and all([is_sign(word) for word in row[2:]])


def is_verdict_row(row):
    if row[0] not in ("keep", "cut") or row.count("|") != 1:
        return False
    bar = row.index("|")
    return is_side(row[1:bar]) and is_side(row[bar + 1:])


def is_side(words):
    return len(words) <= MOST_WORDS and all([is_word(word) for word in words])


def is_word(word):
    return 1 <= len(word) <= MOST_LETTERS and all([letter in LETTERS for letter in word])
