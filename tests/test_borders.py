"""Two texts in form, joined."""

import itertools
import unittest

from signforms.borders import joined
from signforms.errors import FormError, NotFormed
from signforms.joining import form_of, formed
from signforms.opening import full
from signforms.tables import Table

BIG = 10 ** 60 - 1
FORMS = ("apart", "together")

# Ground signs 1, 2, 3; 3 hangs on 1; marks 10 and 11 of one rank, 12. Formed: 20, 21, 22, 23. Shut: 24. Lost: 25.
MARKS = [(10, 3), (11, 3), (12, 5)]
ROWS = [(20, (1, 10)), (21, (20, 12)), (22, (1, 3)), (23, (22, 12)), (24, (2, 10)), (25, (21, 11)), (26, (2,))]
SHUTS = [24]


def sample():
    return Table(list(MARKS), list(ROWS), list(SHUTS))


def some_tables():
    """Tables of two ground signs, two marks, and two signs with rows, the second one often with the first in it."""
    for first in ((1, 3), (1, 4), (1, 2), (2, 2), (2, 3), (3, 4)):
        for second in ((6, 3), (6, 4), (6, 2), (6, 1), (1, 4), (2, 1), (6,)):
            if first != second:
                yield Table([(3, 1), (4, 2)], [(6, first), (7, second)], [])
            yield Table([(3, 1), (4, 2)], [(6, first), (7, second)], [6])


def opening_places(table, text):
    """[18], word by word: the places at which a sign stands that opens."""
    hangers = [row[1] for made, row in table.rows() if len(row) == 2 and formed(table, made)]
    heads = [full(table, sign)[0] for sign in text]
    return [k for k, head in enumerate(heads) if table.rank(head) == 0 and head not in hangers]


def expected_places(table, one, other):
    """[20], word by word."""
    right = (opening_places(table, other) + [len(other)])[0]
    if right == 0:
        return len(one), right
    return ([0] + opening_places(table, one))[-1], right


class Borders(unittest.TestCase):
    """What the tests of borders share."""

    def join(self, one, other, form, expected, table=None):
        table = sample() if table is None else table
        before = list(one), list(other)
        told = joined(table, one, other, form)
        self.assertEqual((one, other), before)
        self.assertIs(type(told), tuple)
        self.assertEqual(told, expected)
        self.assertIs(type(told[0]), list)
        self.check(table, one, other, form, told)

    def check(self, table, one, other, form, told):
        """What [20] says of any two texts in form."""
        text, left, right = told
        self.assertEqual(text, form_of(table, one + other, form))
        self.assertEqual((left, right), expected_places(table, one, other))
        border = form_of(table, one[left:] + other[:right], form)
        self.assertEqual(text, one[:left] + border + other[right:])

    def refused(self, one, other, form, which):
        before = list(one), list(other)
        with self.assertRaises(FormError) as caught:
            joined(sample(), one, other, form)
        self.assertIs(type(caught.exception), NotFormed)
        self.assertEqual(caught.exception.which, which)
        self.assertEqual((one, other), before)


class Apart(Borders):
    """[20], for the apart form."""

    def test_right_nought(self):
        self.join([1, 10], [2, 10], "apart", ([1, 10, 2, 10], 2, 0))
        self.join([10, 12], [1], "apart", ([10, 12, 1], 2, 0))
        self.join([1, 1, 1], [1, 12], "apart", ([1, 1, 1, 1, 12], 3, 0))

    def test_a_border_put_in_order(self):
        self.join([2, 1, 12], [10, 2, 10], "apart", ([2, 1, 10, 12, 2, 10], 1, 1))
        self.join([1, 10, 12], [10, 11, 12, 1], "apart", ([1, 10, 10, 11, 12, 12, 1], 0, 3))
        self.join([1, 2, 12], [10, 1], "apart", ([1, 2, 10, 12, 1], 1, 1))

    def test_a_border_that_begins_with_a_hanger(self):
        self.join([2, 1], [3, 10, 2], "apart", ([2, 1, 3, 10, 2], 1, 2))
        self.join([1, 3, 12], [10, 3, 1], "apart", ([1, 3, 10, 12, 3, 1], 0, 2))

    def test_no_sign_that_opens_in_the_first(self):
        self.join([10, 12], [10, 1], "apart", ([10, 10, 12, 1], 0, 1))
        self.join([3, 12], [10, 2, 1], "apart", ([3, 10, 12, 2, 1], 0, 1))

    def test_no_sign_that_opens_in_the_second(self):
        self.join([2, 1, 12], [10, 11], "apart", ([2, 1, 10, 11, 12], 1, 2))
        self.join([1, 2, 12], [3, 10], "apart", ([1, 2, 12, 3, 10], 1, 2))

    def test_no_sign_that_opens_in_either(self):
        self.join([12], [10], "apart", ([10, 12], 0, 1))
        self.join([3, 12], [10, 3], "apart", ([3, 10, 12, 3], 0, 2))

    def test_texts_of_no_signs(self):
        self.join([], [], "apart", ([], 0, 0))
        self.join([1, 12], [], "apart", ([1, 12], 2, 0))
        self.join([], [1, 12], "apart", ([1, 12], 0, 0))
        self.join([], [12, 1], "apart", ([12, 1], 0, 1))
        self.join([], [3, 10], "apart", ([3, 10], 0, 2))
        self.join([12], [], "apart", ([12], 1, 0))

    def test_not_their_own_form(self):
        for text in ([20], [1, 24], [26], [12, 10], [1, 12, 11], [2, 10, 1, 22]):
            self.refused(text, [1, 10], "apart", 0)
            self.refused([1, 10], text, "apart", 1)
            self.refused(text, text, "apart", 0)
            self.refused(text, [], "apart", 0)
            self.refused([], text, "apart", 1)

    def test_the_other_form_is_not_enough(self):
        self.refused([20], [1], "apart", 0)
        self.refused([1], [23], "apart", 1)


class Together(Borders):
    """[20], for the together form."""

    def test_right_nought(self):
        self.join([20], [20], "together", ([20, 20], 1, 0))
        self.join([10, 12], [21], "together", ([10, 12, 21], 2, 0))
        self.join([2, 1], [1, 2], "together", ([2, 1, 1, 2], 2, 0))

    def test_a_border_put_together(self):
        self.join([2, 1], [10, 2], "together", ([2, 20, 2], 1, 1))
        self.join([2, 20], [12, 20], "together", ([2, 21, 20], 1, 1))
        self.join([1], [10, 12, 1], "together", ([21, 1], 0, 2))
        self.join([2, 1], [3, 12, 2], "together", ([2, 23, 2], 1, 2))
        self.join([22], [12, 22], "together", ([23, 22], 0, 1))

    def test_a_border_put_in_order_and_together(self):
        self.join([2, 1, 12], [10, 2], "together", ([2, 21, 2], 1, 1))
        self.join([20, 11], [12, 1], "together", ([21, 11, 1], 0, 1))
        self.join([21], [11, 2], "together", ([21, 11, 2], 0, 1))

    def test_a_border_taken_otherwise(self):
        """What the holder had taken is given back where another mark comes ahead of it."""
        table = Table([(3, 1), (4, 2)], [(6, (1, 4)), (7, (1, 3))], [])
        self.join([2, 6], [3, 2], "together", ([2, 7, 4, 2], 1, 1), table)

    def test_a_hanger_that_is_a_ground_sign(self):
        self.join([1], [3], "together", ([22], 0, 1))
        self.join([20], [3], "together", ([20, 3], 0, 1))
        self.join([2], [3, 10], "together", ([2, 3, 10], 0, 2))

    def test_no_sign_that_opens_in_the_first(self):
        self.join([10, 12], [10, 20], "together", ([10, 10, 12, 20], 0, 1))
        self.join([3, 12], [11, 1], "together", ([3, 11, 12, 1], 0, 1))

    def test_no_sign_that_opens_in_the_second(self):
        self.join([2, 1], [10, 12], "together", ([2, 21], 1, 2))
        self.join([20, 2, 12], [3, 10], "together", ([20, 2, 12, 3, 10], 1, 2))

    def test_no_sign_that_opens_in_either(self):
        self.join([12], [10], "together", ([10, 12], 0, 1))
        self.join([3], [3], "together", ([3, 3], 0, 1))
        table = Table([], [(20, (3, 3))], [])
        self.join([3], [3], "together", ([20], 0, 1), table)
        self.join([20, 20], [3], "together", ([20, 20, 3], 0, 1), table)
        self.join([20, 3], [20, 3], "together", ([20, 20, 20], 0, 2), table)

    def test_texts_of_no_signs(self):
        self.join([], [], "together", ([], 0, 0))
        self.join([20, 1], [], "together", ([20, 1], 2, 0))
        self.join([], [20, 1], "together", ([20, 1], 0, 0))
        self.join([], [12, 20], "together", ([12, 20], 0, 1))
        self.join([], [3], "together", ([3], 0, 1))
        self.join([10], [], "together", ([10], 1, 0))

    def test_signs_ahead_of_the_border_and_behind_it(self):
        one = [20, 21, 23, 2, 11] * 400
        other = [10, 12, 1] + [21, 20, 2, 10] * 400
        expected = (one[:-2] + [2, 11, 10, 12] + other[2:], len(one) - 2, 2)
        self.join(one, other, "together", expected)

    def test_the_sign_nought_and_long_signs(self):
        table = Table([(BIG, 1)], [(BIG - 1, (0, BIG))], [])
        self.join([BIG - 2, 0], [BIG, 0], "together", ([BIG - 2, BIG - 1, 0], 1, 1), table)

    def test_not_their_own_form(self):
        for text in ([1, 10], [24], [25], [26], [12, 10], [20, 12], [1, 3], [2, 1, 12, 10], [20, 26]):
            self.refused(text, [20, 1], "together", 0)
            self.refused([20, 1], text, "together", 1)
            self.refused(text, text, "together", 0)
            self.refused(text, [], "together", 0)
            self.refused([], text, "together", 1)

    def test_the_other_form_is_not_enough(self):
        self.refused([1, 10], [20], "together", 0)
        self.refused([20], [1, 10], "together", 1)


class AllSmallTexts(Borders):
    """[3], [20]: the border, of every two small texts that are their own form."""

    def formed_texts(self, table, signs, form, longest):
        for length in range(longest + 1):
            for text in itertools.product(signs, repeat=length):
                if form_of(table, list(text), form) == list(text):
                    yield list(text)

    def test_the_sample(self):
        for form in FORMS:
            texts = list(self.formed_texts(sample(), (1, 2, 3, 10, 12, 20, 21, 22), form, 2))
            for one, other in itertools.product(texts, repeat=2):
                self.check(sample(), one, other, form, joined(sample(), one, other, form))

    def test_many_tables(self):
        for number, table in enumerate(some_tables()):
            for form in FORMS:
                texts = list(self.formed_texts(table, (1, 2, 3, 4, 6, 7), form, 3))
                # A part of the many pairs, another one for each table.
                pairs = list(itertools.product(texts, repeat=2))[number % 53::53]
                for one, other in pairs:
                    self.check(table, one, other, form, joined(table, one, other, form))


if __name__ == "__main__":
    unittest.main()
