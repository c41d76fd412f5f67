"""Kept texts: always in their together form, changed at their doors, and undone deed by deed."""

from signforms.errors import NoPlace, NoUndo
from signforms.joining import together
from signforms.looks import opening_places, opens


class Kept:
    def __init__(self, table, text=None):
        self.table = table
        self.signs = together(table, [] if text is None else text)
        # Tuples (low, old, new), the last one at the end; what is undone is gone from here.
        self.deeds = []

    def text(self):
        return list(self.signs)

    def doors(self):
        return sorted(set([0, len(self.signs)] + opening_places(self.table, self.signs)))

    def put(self, at, text):
        self.refuse_no_doors(at, at)
        low = self.border_begin(at, text)
        high = self.border_end(at)
        # Nothing reaches across a sign that opens, so the form is made of the border alone.
        new = together(self.table, self.signs[low:at] + text + self.signs[at:high])
        return self.do_deed(low, self.signs[low:high], new)

    def take(self, low, high):
        self.refuse_no_doors(low, high)
        return self.do_deed(low, self.signs[low:high], [])

    def undo(self):
        if not self.deeds:
            raise NoUndo("there is no deed that is not undone")
        deed = self.deeds.pop()
        gone = deed[2]
        come = deed[1]
        self.exchange(deed[0], gone, come)
        return (deed[0], gone, come)

    def refuse_no_doors(self, low, high):
        doors = self.doors()
        # The places are left out of the words: Python refuses to write numbers of any length.
        if low not in doors or high not in doors:
            raise NoPlace("there is no door at this place")
        if high < low:
            raise NoPlace("the second door is less than the first")

    def border_begin(self, at, text):
        form = together(self.table, text)
        if not form or opens(self.table, form[0]):
            return at
        return max([place for place in opening_places(self.table, self.signs) if place < at], default=0)

    def border_end(self, at):
        return min([place for place in opening_places(self.table, self.signs) if place >= at], default=len(self.signs))

    def do_deed(self, low, old, new):
        self.exchange(low, old, new)
        self.deeds.append((low, old, new))
        # What is told may be changed by whoever asked, and the deed is still to be undone.
        return (low, list(old), list(new))

    def exchange(self, low, gone, come):
        self.signs = self.signs[:low] + come + self.signs[low + len(gone):]
