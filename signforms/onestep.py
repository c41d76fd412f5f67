"""Single steps of a text: a sign opened, a row closed, two neighbouring marks exchanged."""

from signforms.errors import NoStep


def done(table, text, step):
    refuse_no_step(table, text, step)
    place = step[1]
    if step[0] == "open":
        return text[:place] + list(table.row(text[place])) + text[place + 1:]
    if step[0] == "close":
        return text[:place] + [step[2]] + text[place + len(table.row(step[2])):]
    return text[:place] + [text[place + 1], text[place]] + text[place + 2:]


def back(table, text, step):
    refuse_no_step(table, text, step)
    place = step[1]
    if step[0] == "open":
        return ("close", place, text[place])
    if step[0] == "close":
        return ("open", place)
    return ("swap", place)


def refuse_no_step(table, text, step):
    if not is_step(table, text, step):
        # The step itself is left out of the words: Python refuses to write numbers of any length.
        raise NoStep("the text has no such step")


def is_step(table, text, step):
    place = step[1]
    # Asked first, since Python itself would count places below 0 from the text's end.
    if place < 0 or place >= len(text):
        return False
    if step[0] == "open":
        return table.row(text[place]) is not None
    if step[0] == "close":
        return stands_at(text, place, table.row(step[2]))
    return step[0] == "swap" and can_swap(table, text, place)


def stands_at(text, place, row):
    return row is not None and tuple(text[place:place + len(row)]) == row


def can_swap(table, text, place):
    if place + 1 >= len(text):
        return False
    one = table.rank(text[place])
    other = table.rank(text[place + 1])
    return one > 0 and other > 0 and one != other
