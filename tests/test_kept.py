"""Kept texts: their doors, what is put in, taken out and undone."""

import itertools
import random
import unittest

from signforms.errors import FormError, NoPlace, NoUndo
from signforms.joining import formed, together
from signforms.kept import Kept
from signforms.opening import full
from signforms.tables import Table

BIG = 10 ** 60 - 1

# Ground signs 1 to 5, of which 3 hangs on 1; marks 10 and 11 of one rank, 12. Formed: 20 to 23, and 27, whose full row
# begins with a hanger. Shut: 24. Lost: 25.
MARKS = [(10, 3), (11, 3), (12, 5)]
ROWS = [(20, (1, 10)), (21, (20, 12)), (22, (1, 3)), (23, (22, 12)), (24, (2, 10)), (25, (21, 11)), (26, (2,))]
ROWS += [(27, (3, 10))]
SHUTS = [24]


def sample():
    return Table(list(MARKS), list(ROWS), list(SHUTS))


def some_tables():
    """Tables of two ground signs, two marks, and two signs with rows, the second one often with the first in it."""
    for first in ((1, 3), (1, 4), (1, 2), (2, 2), (2, 3), (3, 4)):
        for second in ((6, 3), (6, 4), (6, 2), (6, 1), (1, 4), (2, 1), (6,)):
            if first != second:
                yield Table([(3, 1), (4, 2)], [(6, first), (7, second)], [])
            yield Table([(3, 1), (4, 2)], [(6, first), (7, second)], [6])


def small_texts(signs, longest):
    for length in range(longest + 1):
        for text in itertools.product(signs, repeat=length):
            yield list(text)


def opening_places(table, text):
    """[18], word by word: the places at which a sign stands that opens."""
    hangers = [row[1] for made, row in table.rows() if len(row) == 2 and formed(table, made)]
    heads = [full(table, sign)[0] for sign in text]
    return [k for k, head in enumerate(heads) if table.rank(head) == 0 and head not in hangers]


def expected_put(table, kept, at, text):
    """[29], word by word: what is kept then, and where it begins and ends to be otherwise."""
    form = together(table, text)
    opening = opening_places(table, kept)
    if form == [] or opening_places(table, form)[:1] == [0]:
        low = at
    else:
        low = max([place for place in opening if place < at], default=0)
    end = min([place for place in opening if place >= at], default=len(kept))
    return together(table, kept[:at] + text + kept[at:]), low, end


class KeptTexts(unittest.TestCase):
    """What the tests of kept texts share."""

    def holds(self, kept, text, doors=None):
        self.assertEqual(kept.text(), text)
        self.assertIs(type(kept.text()), list)
        if doors is not None:
            self.assertEqual(kept.doors(), doors)
            self.assertIs(type(kept.doors()), list)

    def same(self, told, expected):
        self.assertEqual(told, expected)
        self.assertEqual([type(each) for each in told], [int, list, list])
        self.assertIs(type(told), tuple)

    def put(self, begin, at, text, told, now, table=None):
        """A put by itself, and undone."""
        with self.subTest(begin=begin, at=at, text=text):
            kept = Kept(sample() if table is None else table, begin)
            before = kept.text()
            handed = list(text)
            self.same(kept.put(at, handed), told)
            self.assertEqual(handed, text)
            self.holds(kept, now)
            low, old, new = told
            self.assertEqual(before[:low] + new + before[low + len(old):], now)
            self.same(kept.undo(), (low, new, old))
            self.holds(kept, before)

    def take(self, begin, low, high, told, now):
        """A taking out by itself, and undone."""
        with self.subTest(begin=begin, low=low, high=high):
            kept = Kept(sample(), begin)
            before = kept.text()
            self.same(kept.take(low, high), told)
            self.holds(kept, now)
            self.same(kept.undo(), (told[0], told[2], told[1]))
            self.holds(kept, before)

    def refused(self, error, deed, *values):
        with self.assertRaises(FormError) as caught:
            deed(*values)
        self.assertIs(type(caught.exception), error)


class Begun(KeptTexts):
    """[29]: how it begins, and its doors."""

    def test_none_told(self):
        self.holds(Kept(sample()), [], [0])
        self.holds(Kept(sample(), None), [], [0])
        self.holds(Kept(Table([], [], [])), [], [0])

    def test_a_text_of_no_signs(self):
        self.holds(Kept(sample(), []), [], [0])

    def test_the_name_of_the_text(self):
        self.holds(Kept(sample(), text=[1, 10]), [20], [0, 1])

    def test_the_together_form(self):
        self.holds(Kept(sample(), [1, 12, 10, 2]), [21, 2], [0, 1, 2])
        self.holds(Kept(sample(), [25, 24, 26]), [21, 11, 2, 10, 2], [0, 2, 4, 5])
        self.holds(Kept(sample(), [12, 10]), [10, 12], [0, 2])

    def test_doors_where_a_sign_opens(self):
        self.holds(Kept(sample(), [1, 2, 4]), [1, 2, 4], [0, 1, 2, 3])
        self.holds(Kept(sample(), [20, 11, 2, 3, 12, 23]), [20, 11, 2, 3, 12, 23], [0, 2, 5, 6])

    def test_the_first_place_is_a_door_anyway(self):
        self.holds(Kept(sample(), [10, 12, 1]), [10, 12, 1], [0, 2, 3])
        self.holds(Kept(sample(), [27, 3]), [27, 3], [0, 2])
        self.holds(Kept(sample(), [3]), [3], [0, 1])

    def test_each_once(self):
        self.holds(Kept(sample(), [1]), [1], [0, 1])
        self.holds(Kept(sample(), [10]), [10], [0, 1])

    def test_more_than_nine(self):
        self.holds(Kept(sample(), [1, 12] * 12), [1, 12] * 12, list(range(0, 25, 2)))

    def test_long_texts(self):
        self.holds(Kept(sample(), [1, 12, 10, 2] * 500), [21, 2] * 500, list(range(1001)))


class Put(KeptTexts):
    """[29]: what is put in."""

    def test_into_a_text_of_no_signs(self):
        self.put([], 0, [1, 12, 10], (0, [], [21]), [21])
        self.put([], 0, [12, 10], (0, [], [10, 12]), [10, 12])
        self.put([], 0, [], (0, [], []), [])
        self.put(None, 0, [3], (0, [], [3]), [3])

    def test_a_text_of_no_signs(self):
        self.put([20, 2], 0, [], (0, [], []), [20, 2])
        self.put([20, 2], 1, [], (1, [], []), [20, 2])
        self.put([20, 2], 2, [], (2, [], []), [20, 2])
        self.put([20, 12, 2, 11], 3, [], (3, [], []), [21, 2, 11])

    def test_a_text_of_no_signs_ahead_of_a_first_sign_that_does_not_open(self):
        self.put([10, 12, 2], 0, [], (0, [10, 12], [10, 12]), [10, 12, 2])
        self.put([27, 3], 0, [], (0, [27, 3], [27, 3]), [27, 3])
        self.put([27, 3], 2, [], (2, [], []), [27, 3])

    def test_one_that_opens_at_the_first_door(self):
        self.put([20, 2], 0, [4], (0, [], [4]), [4, 20, 2])
        self.put([20, 2], 0, [1, 12], (0, [], [1, 12]), [1, 12, 20, 2])
        self.put([20, 2], 0, [1, 12, 10, 25], (0, [], [21, 21, 11]), [21, 21, 11, 20, 2])

    def test_one_that_opens_ahead_of_a_first_sign_that_does_not(self):
        self.put([10, 12, 2], 0, [1], (0, [10, 12], [21]), [21, 2])
        self.put([12, 2], 0, [1, 10], (0, [12], [21]), [21, 2])
        self.put([10, 3, 2], 0, [1, 12], (0, [10, 3], [21, 3]), [21, 3, 2])
        self.put([3, 12], 0, [4, 1], (0, [3, 12], [4, 23]), [4, 23])
        self.put([10, 12], 0, [2], (0, [10, 12], [2, 10, 12]), [2, 10, 12])

    def test_one_that_opens_at_the_last_door(self):
        self.put([20, 2], 2, [4, 1, 10], (2, [], [4, 20]), [20, 2, 4, 20])
        self.put([10, 12], 2, [1], (2, [], [1]), [10, 12, 1])
        self.put([20, 2, 12], 3, [1], (3, [], [1]), [20, 2, 12, 1])

    def test_one_that_opens_between(self):
        self.put([20, 2], 1, [4, 12, 10], (1, [], [4, 10, 12]), [20, 4, 10, 12, 2])
        self.put([20, 11, 2, 4], 2, [1, 3], (2, [], [22]), [20, 11, 22, 2, 4])

    def test_one_that_does_not_open_at_the_first_door(self):
        self.put([20, 2], 0, [12, 10], (0, [], [10, 12]), [10, 12, 20, 2])
        self.put([20, 2], 0, [3], (0, [], [3]), [3, 20, 2])
        self.put([10, 2], 0, [12], (0, [10], [10, 12]), [10, 12, 2])
        self.put([10, 2], 0, [3], (0, [10], [27]), [27, 2])
        self.put([10, 12, 2], 0, [12, 1], (0, [10, 12], [12, 21]), [12, 21, 2])

    def test_one_that_does_not_open_at_the_last_door(self):
        self.put([2, 1], 2, [10, 12], (1, [1], [21]), [2, 21])
        self.put([2, 1, 12], 3, [10], (1, [1, 12], [21]), [2, 21])
        self.put([2, 1], 2, [3, 4], (1, [1], [22, 4]), [2, 22, 4])
        self.put([2], 1, [12], (0, [2], [2, 12]), [2, 12])

    def test_one_that_does_not_open_between(self):
        self.put([4, 1, 2], 2, [12, 10], (1, [1], [21]), [4, 21, 2])
        self.put([4, 20, 11, 2], 3, [12, 4], (1, [20, 11], [21, 11, 4]), [4, 21, 11, 4, 2])
        self.put([1, 2, 4], 1, [3], (0, [1], [22]), [22, 2, 4])
        self.put([1, 2, 4], 2, [12], (1, [2], [2, 12]), [1, 2, 12, 4])

    def test_one_that_does_not_open_where_nothing_opens_ahead(self):
        self.put([10, 12, 2], 2, [11], (0, [10, 12], [10, 11, 12]), [10, 11, 12, 2])
        self.put([3, 2], 1, [10], (0, [3], [27]), [27, 2])
        self.put([12], 1, [10], (0, [12], [10, 12]), [10, 12])
        self.put([27, 3], 2, [10], (0, [27, 3], [27, 27]), [27, 27])

    def test_what_a_letter_had_is_given_back(self):
        table = Table([(3, 1), (4, 2)], [(6, (1, 4)), (7, (1, 3))], [])
        self.put([2, 6, 2], 2, [3], (1, [6], [7, 4]), [2, 7, 4, 2], table)

    def test_whether_the_form_of_the_text_opens(self):
        """And not the text's own first sign, nor one behind it."""
        self.put([1], 1, [12, 1], (0, [1], [1, 12, 1]), [1, 12, 1])
        self.put([1, 2], 1, [24], (1, [], [2, 10]), [1, 2, 10, 2])
        self.put([1, 2], 1, [26], (1, [], [2]), [1, 2, 2])
        self.put([1, 2], 1, [27], (0, [1], [22, 10]), [22, 10, 2])
        table = Table([(10, 1)], [(20, (10,)), (21, (5,))], [])
        self.put([1, 2], 1, [20], (0, [1], [1, 10]), [1, 10, 2], table)
        self.put([1, 2], 1, [21], (1, [], [5]), [1, 5, 2], table)

    def test_where_nothing_ever_opens(self):
        table = Table([], [(20, (1, 1))], [])
        self.put([1, 1, 1], 2, [1], (0, [20, 1], [20, 20]), [20, 20], table)
        self.put([1, 1, 1], 0, [1], (0, [20, 1], [20, 20]), [20, 20], table)
        self.put([1, 1, 1], 0, [], (0, [20, 1], [20, 1]), [20, 1], table)
        self.put([1, 1, 1], 2, [], (2, [], []), [20, 1], table)

    def test_the_sign_nought_and_long_signs(self):
        table = Table([(BIG, 1)], [(BIG - 1, (0, BIG))], [])
        self.put([5, 0, 5], 2, [BIG], (1, [0], [BIG - 1]), [5, BIG - 1, 5], table)

    def test_long_texts(self):
        begin = [21, 2] * 500
        self.put(begin, 501, [12] * 3, (500, [21], [21, 12, 12, 12]), begin[:501] + [12] * 3 + begin[501:])

    def test_doors_behind_it(self):
        kept = Kept(sample(), [20, 2])
        kept.put(1, [4, 12])
        self.holds(kept, [20, 4, 12, 2], [0, 1, 3, 4])
        kept.put(3, [10])
        self.holds(kept, [20, 4, 10, 12, 2], [0, 1, 4, 5])
        kept.put(5, [3])
        self.holds(kept, [20, 4, 10, 12, 2, 3], [0, 1, 4, 6])
        kept.put(0, [12])
        self.holds(kept, [12, 20, 4, 10, 12, 2, 3], [0, 1, 2, 5, 7])
        kept.put(0, [1])
        self.holds(kept, [1, 12, 20, 4, 10, 12, 2, 3], [0, 2, 3, 6, 8])

    def test_the_kept_text_put_into_itself(self):
        kept = Kept(sample(), [1, 2])
        self.same(kept.put(1, kept.text()), (1, [], [1, 2]))
        self.holds(kept, [1, 1, 2, 2])


class Taken(KeptTexts):
    """[29]: what is taken out."""

    def test_nothing(self):
        for door in (0, 1, 3, 4):
            self.take([20, 2, 12, 4], door, door, (door, [], []), [20, 2, 12, 4])
        self.take([], 0, 0, (0, [], []), [])
        self.take([10, 12, 1], 0, 0, (0, [], []), [10, 12, 1])

    def test_all(self):
        self.take([20, 2, 12, 4], 0, 4, (0, [20, 2, 12, 4], []), [])
        self.take([10, 12], 0, 2, (0, [10, 12], []), [])

    def test_some(self):
        self.take([20, 2, 12, 4], 0, 1, (0, [20], []), [2, 12, 4])
        self.take([20, 2, 12, 4], 1, 3, (1, [2, 12], []), [20, 4])
        self.take([20, 2, 12, 4], 3, 4, (3, [4], []), [20, 2, 12])
        self.take([20, 2, 12, 4], 0, 3, (0, [20, 2, 12], []), [4])
        self.take([1, 12, 10, 2, 10, 4], 1, 3, (1, [2, 10], []), [21, 4])

    def test_a_first_sign_that_does_not_open(self):
        self.take([10, 12, 1, 2], 0, 2, (0, [10, 12], []), [1, 2])
        self.take([10, 12, 1, 2], 2, 3, (2, [1], []), [10, 12, 2])
        self.take([10, 12, 1, 2], 2, 4, (2, [1, 2], []), [10, 12])
        self.take([3, 1], 0, 1, (0, [3], []), [1])

    def test_doors_behind_it(self):
        kept = Kept(sample(), [10, 1, 12, 2, 4])
        kept.take(1, 3)
        self.holds(kept, [10, 2, 4], [0, 1, 2, 3])
        kept.take(0, 3)
        self.holds(kept, [], [0])

    def test_long_texts(self):
        self.take([1, 12] * 1000, 2, 1998, (2, [1, 12] * 998, []), [1, 12] * 2)


class Refused(KeptTexts):
    """[29]: NoPlace; nothing is changed, and nothing of it is undone."""

    def unchanged(self, begin, refuse):
        kept = Kept(sample(), begin)
        text, doors = kept.text(), kept.doors()
        refuse(kept)
        self.holds(kept, text, doors)
        self.refused(NoUndo, kept.undo)
        kept.put(len(text), [4])
        refuse(kept)
        self.holds(kept, text + [4])
        self.same(kept.undo(), (len(text), [4], []))
        self.holds(kept, text, doors)
        self.refused(NoUndo, kept.undo)

    def test_put_at_no_door(self):
        def refuse(kept):
            end = len(kept.text())
            for wrong in (-1, -2, -end - 1, end + 1, end + 2, BIG, 10 ** 6000, -(10 ** 6000)):
                for text in ([], [4], [10], [1, 10]):
                    self.refused(NoPlace, kept.put, wrong, text)
        for begin in ([], [1, 12, 2], [10, 12, 1]):
            self.unchanged(begin, refuse)

    def test_take_at_no_door(self):
        def refuse(kept):
            end = len(kept.text())
            for wrong in (-1, -2, end + 1, end + 2, BIG, 10 ** 6000, -(10 ** 6000)):
                self.refused(NoPlace, kept.take, wrong, wrong)
                self.refused(NoPlace, kept.take, 0, wrong)
                self.refused(NoPlace, kept.take, wrong, end)
        for begin in ([], [1, 12, 2], [10, 12, 1]):
            self.unchanged(begin, refuse)

    def test_places_between(self):
        kept = Kept(sample(), [10, 12, 1, 12, 2, 3])
        self.assertEqual(kept.doors(), [0, 2, 4, 6])
        for at in (1, 3, 5, 7, -1, -2, -4, -6):
            self.refused(NoPlace, kept.put, at, [4])
            self.refused(NoPlace, kept.put, at, [])
            self.refused(NoPlace, kept.take, at, at)
            for door in (0, 2, 4, 6):
                self.refused(NoPlace, kept.take, at, door)
                self.refused(NoPlace, kept.take, door, at)
        self.holds(kept, [10, 12, 1, 12, 2, 3], [0, 2, 4, 6])
        self.refused(NoUndo, kept.undo)

    def test_a_second_door_less_than_the_first(self):
        def refuse(kept):
            for one, other in itertools.combinations(kept.doors(), 2):
                self.refused(NoPlace, kept.take, other, one)
        for begin in ([1, 12, 2], [10, 12, 1], [1]):
            self.unchanged(begin, refuse)

    def test_doors_of_the_text_as_it_was(self):
        kept = Kept(sample(), [1, 2, 4])
        kept.put(1, [12])
        self.refused(NoPlace, kept.put, 1, [4])
        kept.undo()
        self.refused(NoPlace, kept.take, 0, 4)
        kept.put(1, [5])
        kept.take(0, 4)
        self.refused(NoPlace, kept.put, 1, [4])
        self.holds(kept, [], [0])


class Undone(KeptTexts):
    """[29]: deeds undone."""

    def test_none_to_be_undone(self):
        self.refused(NoUndo, Kept(sample()).undo)
        kept = Kept(sample(), [1, 10])
        for time in range(3):
            self.refused(NoUndo, kept.undo)
            self.holds(kept, [20], [0, 1])

    def test_one_by_one_down_to_the_first(self):
        kept = Kept(sample(), [1, 2])
        self.same(kept.put(1, [10]), (0, [1], [20]))
        self.same(kept.put(1, [12, 4]), (0, [20], [21, 4]))
        self.same(kept.take(1, 3), (1, [4, 2], []))
        self.same(kept.put(0, [3]), (0, [], [3]))
        self.holds(kept, [3, 21], [0, 1, 2])
        self.same(kept.undo(), (0, [3], []))
        self.holds(kept, [21], [0, 1])
        self.same(kept.undo(), (1, [], [4, 2]))
        self.holds(kept, [21, 4, 2], [0, 1, 2, 3])
        self.same(kept.undo(), (0, [21, 4], [20]))
        self.holds(kept, [20, 2], [0, 1, 2])
        self.same(kept.undo(), (0, [20], [1]))
        self.holds(kept, [1, 2], [0, 1, 2])
        self.refused(NoUndo, kept.undo)
        self.holds(kept, [1, 2], [0, 1, 2])

    def test_deeds_that_changed_nothing(self):
        kept = Kept(sample(), [10, 1, 2])
        kept.put(1, [4])
        self.same(kept.put(0, []), (0, [10], [10]))
        self.same(kept.put(2, []), (2, [], []))
        self.same(kept.take(1, 1), (1, [], []))
        self.same(kept.undo(), (1, [], []))
        self.same(kept.undo(), (2, [], []))
        self.same(kept.undo(), (0, [10], [10]))
        self.holds(kept, [10, 4, 1, 2])
        self.same(kept.undo(), (1, [4], []))
        self.holds(kept, [10, 1, 2])
        self.refused(NoUndo, kept.undo)

    def test_deeds_behind_an_undoing(self):
        kept = Kept(sample(), [1])
        kept.put(1, [2])
        kept.put(2, [4])
        kept.undo()
        self.same(kept.put(0, [5]), (0, [], [5]))
        self.holds(kept, [5, 1, 2])
        self.same(kept.undo(), (0, [5], []))
        self.same(kept.undo(), (1, [2], []))
        self.refused(NoUndo, kept.undo)
        self.same(kept.put(1, [10]), (0, [1], [20]))
        self.same(kept.undo(), (0, [20], [1]))
        self.refused(NoUndo, kept.undo)
        self.holds(kept, [1])

    def test_a_refused_deed_between(self):
        kept = Kept(sample(), [1, 12])
        kept.put(2, [2])
        self.refused(NoPlace, kept.put, 1, [4])
        self.refused(NoPlace, kept.take, 2, 0)
        self.refused(NoPlace, kept.take, 0, 9)
        self.same(kept.undo(), (2, [2], []))
        self.refused(NoPlace, kept.put, 1, [4])
        self.refused(NoUndo, kept.undo)
        self.holds(kept, [1, 12])

    def test_an_undoing_is_no_deed(self):
        kept = Kept(sample(), [])
        kept.put(0, [1])
        kept.put(1, [2])
        self.same(kept.undo(), (1, [2], []))
        self.same(kept.undo(), (0, [1], []))
        self.refused(NoUndo, kept.undo)

    def test_many_deeds(self):
        kept = Kept(sample())
        for sign in range(1, 300):
            kept.put(len(kept.text()), [sign + 100])
        for sign in range(299, 0, -1):
            self.same(kept.undo(), (sign - 1, [sign + 100], []))
        self.refused(NoUndo, kept.undo)
        self.holds(kept, [], [0])


class Belongs(KeptTexts):
    """[2]: what is handed over is only looked at, what is told belongs to whoever asked."""

    CHANGES = (list.clear, list.reverse, lambda told: told.extend([20, 5, 10]), lambda told: told.insert(0, 12))

    def test_a_text_handed_in_and_changed_afterwards(self):
        for change, begin in itertools.product(self.CHANGES, ([], [1, 2], [10, 1, 12], [1, 10])):
            handed = list(begin)
            kept = Kept(sample(), handed)
            self.assertEqual(handed, begin)
            expected = kept.text()
            change(handed)
            self.holds(kept, expected)

    def test_a_text_put_in_and_changed_afterwards(self):
        for change, text in itertools.product(self.CHANGES, ([], [1, 2], [10, 1], [12, 10], [4])):
            kept = Kept(sample(), [1, 2])
            handed = list(text)
            kept.put(1, handed)
            self.assertEqual(handed, text)
            expected = kept.text()
            change(handed)
            self.holds(kept, expected)
            kept.undo()
            self.holds(kept, [1, 2], [0, 1, 2])

    def test_told_lists_changed(self):
        for change in self.CHANGES:
            kept = Kept(sample(), [1, 2, 12, 4])
            change(kept.text())
            change(kept.doors())
            self.holds(kept, [1, 2, 12, 4], [0, 1, 3, 4])
            for each in kept.put(1, [10])[1:]:
                change(each)
            self.holds(kept, [20, 2, 12, 4], [0, 1, 3, 4])
            for each in kept.take(1, 3)[1:]:
                change(each)
            self.holds(kept, [20, 4], [0, 1, 2])
            told = kept.undo()
            self.assertEqual(told, (1, [], [2, 12]))
            for each in told[1:]:
                change(each)
            self.holds(kept, [20, 2, 12, 4], [0, 1, 3, 4])
            told = kept.undo()
            self.assertEqual(told, (0, [20], [1]))
            for each in told[1:]:
                change(each)
            self.holds(kept, [1, 2, 12, 4], [0, 1, 3, 4])
            self.refused(NoUndo, kept.undo)

    def test_told_lists_of_deeds_that_changed_nothing(self):
        for change in self.CHANGES:
            kept = Kept(sample(), [10, 2])
            for deed in (lambda: kept.put(0, []), lambda: kept.put(1, []), lambda: kept.take(1, 1), kept.undo, kept.undo):
                told = deed()
                self.assertIsNot(told[1], told[2])
                change(told[1])
                change(told[2])
                self.holds(kept, [10, 2], [0, 1, 2])
            self.same(kept.undo(), (0, [10], [10]))
            self.refused(NoUndo, kept.undo)

    def test_what_is_told_later_changes_nothing_told(self):
        kept = Kept(sample(), [1, 2])
        told = [kept.text(), kept.doors(), kept.put(1, [10]), kept.text(), kept.put(2, [4, 12]), kept.text()]
        told += [kept.take(0, 2), kept.text(), kept.doors(), kept.undo(), kept.undo(), kept.text(), kept.put(0, [3])]
        kept.undo()
        kept.take(0, 2)
        self.assertEqual(told[:6], [[1, 2], [0, 1, 2], (0, [1], [20]), [20, 2], (2, [], [4, 12]), [20, 2, 4, 12]])
        self.assertEqual(told[6:10], [(0, [20, 2], []), [4, 12], [0, 2], (0, [], [20, 2])])
        self.assertEqual(told[10:], [(2, [4, 12], []), [20, 2], (0, [], [3])])

    def test_asked_again(self):
        kept = Kept(sample(), [10, 1, 12, 2])
        for time in range(3):
            self.holds(kept, [10, 1, 12, 2], [0, 1, 3, 4])
            self.assertIsNot(kept.text(), kept.text())
            self.assertIsNot(kept.doors(), kept.doors())

    def test_two_kept_texts_in_turn(self):
        table = sample()
        handed = [1, 2]
        one, other = Kept(table, handed), Kept(table, handed)
        one.put(1, [10])
        self.holds(one, [20, 2])
        self.holds(other, [1, 2])
        other.put(2, [4])
        self.refused(NoPlace, one.put, 3, [4])
        one.take(0, 1)
        self.holds(one, [2])
        self.holds(other, [1, 2, 4])
        self.same(other.undo(), (2, [4], []))
        self.refused(NoUndo, other.undo)
        self.same(one.undo(), (0, [], [20]))
        self.same(one.undo(), (0, [20], [1]))
        self.refused(NoUndo, one.undo)

    def test_two_begun_with_none_told(self):
        one, other = Kept(sample()), Kept(sample())
        one.put(0, [1])
        self.holds(one, [1])
        self.holds(other, [])
        self.holds(Kept(sample()), [])

    def test_two_tables_in_turn(self):
        one = Kept(sample(), [1, 10, 2])
        other = Kept(Table([], [(20, (1, 2)), (21, (20, 10))], []), [1, 10, 2])
        self.holds(one, [20, 2], [0, 1, 2])
        self.holds(other, [1, 10, 2], [0, 3])
        self.same(one.put(2, [10]), (1, [2], [2, 10]))
        self.same(other.put(3, [1, 2]), (3, [], [20]))
        self.same(other.put(4, [10]), (3, [20], [21]))
        self.holds(one, [20, 2, 10], [0, 1, 3])
        self.holds(other, [1, 10, 2, 21], [0, 3, 4])

    def test_the_table_stays_as_it_was(self):
        table = sample()
        kept = Kept(table, [1, 2])
        kept.put(1, [10, 25])
        kept.take(0, 1)
        kept.undo()
        self.assertEqual((table.marks(), table.rows(), table.shuts()), (MARKS, ROWS, SHUTS))

    def test_the_lists_of_which_its_table_was_made_changed_afterwards(self):
        marks, rows, shuts = list(MARKS), list(ROWS), list(SHUTS)
        kept = Kept(Table(marks, rows, shuts), [1, 2])
        marks.clear()
        rows.clear()
        shuts.clear()
        self.same(kept.put(1, [12, 10]), (0, [1], [21]))


class AllSmallTexts(KeptTexts):
    """[3], [29]: what is told and kept, for every small text put in at each door of small texts."""

    def check_put(self, table, kept, at, text):
        before = kept.text()
        whole, low, end = expected_put(table, before, at, text)
        told = kept.put(at, text)
        self.assertEqual(kept.text(), whole)
        self.assertEqual(told[:2], (low, before[low:end]))
        self.assertEqual(before[:low] + told[2] + before[end:], whole)
        self.check_doors(table, kept)

    def check_take(self, table, kept, low, high):
        before = kept.text()
        told = kept.take(low, high)
        self.assertEqual(told, (low, before[low:high], []))
        self.assertEqual(kept.text(), before[:low] + before[high:])
        self.assertEqual(kept.text(), together(table, kept.text()))
        self.check_doors(table, kept)

    def check_doors(self, table, kept):
        text = kept.text()
        self.assertEqual(kept.doors(), sorted({0, len(text), *opening_places(table, text)}))

    def check_undo(self, kept, before):
        now = kept.text()
        low, gone, come = kept.undo()
        self.assertEqual(kept.text(), before)
        self.assertEqual(now[low:low + len(gone)], gone)
        self.assertEqual(now[:low] + come + now[low + len(gone):], before)

    def all_deeds(self, table, begin, texts):
        kept = Kept(table, begin)
        before = kept.text()
        self.assertEqual(before, together(table, begin))
        self.check_doors(table, kept)
        doors = kept.doors()
        for at in range(-2, len(before) + 3):
            for text in texts:
                if at in doors:
                    self.check_put(table, kept, at, text)
                    self.check_undo(kept, before)
                else:
                    self.refused(NoPlace, kept.put, at, text)
        for low, high in itertools.product(range(-1, len(before) + 2), repeat=2):
            if low in doors and high in doors and low <= high:
                self.check_take(table, kept, low, high)
                self.check_undo(kept, before)
            else:
                self.refused(NoPlace, kept.take, low, high)
        self.assertEqual(kept.text(), before)
        self.refused(NoUndo, kept.undo)

    def test_the_sample(self):
        texts = list(small_texts((1, 3, 10, 12, 2, 24), 2))[::3] + [[12, 10, 1, 3], [25]]
        for begin in list(small_texts((1, 2, 3, 10, 12, 21, 22, 27), 3))[::11]:
            self.all_deeds(sample(), begin, texts)

    def test_many_tables(self):
        texts = list(small_texts((1, 2, 3, 4, 6, 7), 2))
        for number, table in enumerate(some_tables()):
            for begin in list(small_texts((1, 2, 3, 4, 6, 7), 3))[number % 23::23]:
                self.all_deeds(table, begin, texts[number % 5::5])

    def test_long_rows_of_deeds(self):
        """The same ones at each run: the source of chance is set."""
        chance = random.Random(29)
        texts = list(small_texts((1, 2, 3, 4, 6, 7), 3))
        for table in some_tables():
            kept = Kept(table, chance.choice(texts))
            befores = []
            for time in range(40):
                doors = kept.doors()
                kind = chance.randrange(4)
                if kind == 0 and befores:
                    self.check_undo(kept, befores.pop())
                elif kind == 1:
                    befores.append(kept.text())
                    self.check_take(table, kept, *sorted(chance.choices(doors, k=2)))
                else:
                    befores.append(kept.text())
                    self.check_put(table, kept, chance.choice(doors), chance.choice(texts))
            while befores:
                self.check_undo(kept, befores.pop())
            self.refused(NoUndo, kept.undo)


if __name__ == "__main__":
    unittest.main()
