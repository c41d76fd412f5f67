"""Signs that hang, stop or open, and quick looks at texts."""

import itertools
import unittest

from signforms.joining import form_of, formed
from signforms.looks import hanger, opens, quick, stop
from signforms.opening import full
from signforms.ordering import falls
from signforms.tables import Table

BIG = 10 ** 60 - 1

# Ground signs 1 to 9, marks 10 to 13. Formed signs: 20 (with the mark 10), 21 (with the ground sign 2), 22 (with both).
MARKS = [(10, 3), (11, 3), (12, 5), (13, 7)]
ROWS = [(20, (1, 10)), (21, (1, 2)), (22, (21, 12)), (23, (3, 11)), (24, (22, 10)), (25, (12, 13)), (26, (4, 20))]
ROWS += [(27, (5,)), (28, (20,)), (29, (2, 10)), (30, (6, 10)), (31, (2,)), (32, (12,)), (33, (10, 1)), (34, (23, 7))]
SHUTS = [23, 30]


def sample():
    return Table(list(MARKS), list(ROWS), list(SHUTS))


def small_tables():
    """Tables of two ground signs (1, 2), three marks (3; 4 and 5 of one rank), and two signs with every row there is."""
    marks = [(3, 1), (4, 2), (5, 2)]

    def rows_of(signs):
        return [(one,) for one in signs] + list(itertools.product(signs, repeat=2))

    for first, second in itertools.product(rows_of((1, 2, 3, 4, 5)), rows_of((1, 2, 3, 4, 5, 6))):
        pairs = [sign for sign, row in ((6, first), (7, second)) if len(row) == 2]
        for size in range(len(pairs) + 1):
            for shuts in itertools.combinations(pairs, size):
                if not (first == second and len(pairs) == 2 and not shuts):
                    yield Table(marks, [(6, first), (7, second)], list(shuts))


def is_hanger(table, sign):
    """[18], word by word."""
    return any(len(row) == 2 and row[1] == sign and formed(table, made) for made, row in table.rows())


def is_stop(table, sign):
    return table.row(sign) is None and table.rank(sign) == 0 and not is_hanger(table, sign)


def expected_look(table, text, form):
    """[19], word by word."""
    if form == "apart":
        bare = all(table.row(sign) is None for sign in text)
        return "yes" if bare and falls(table, text) == [] else "no"
    if any(not formed(table, sign) for sign in text) or falls(table, text) != []:
        return "no"
    return "maybe" if any(is_hanger(table, full(table, sign)[0]) for sign in text) else "yes"


class Signs(unittest.TestCase):
    """[18]"""

    def told(self, asked, table, yes, no):
        for sign in yes:
            with self.subTest(asked.__name__, sign=sign):
                self.assertIs(asked(table, sign), True)
        for sign in no:
            with self.subTest(asked.__name__, sign=sign):
                self.assertIs(asked(table, sign), False)

    def test_what_is_formed_in_the_sample(self):
        """Said once more here, as all the rest hangs on it."""
        signs = [sign for sign, row in ROWS if formed(sample(), sign)]
        self.assertEqual(signs, [20, 21, 22, 29])

    def test_hangers_that_are_marks(self):
        self.told(hanger, sample(), [10, 12], [])

    def test_hangers_that_are_ground_signs(self):
        self.told(hanger, sample(), [2], [])

    def test_the_second_sign_of_a_shut_sign_is_none(self):
        self.told(hanger, sample(), [], [11])
        self.told(hanger, Table([], [(20, (1, 2))], [20]), [], [1, 2, 20])

    def test_the_second_sign_of_a_sign_that_is_not_formed_is_none(self):
        # 25 begins with a mark, 26 ends with a sign that has a row, 33 begins with a mark, 34 with a shut sign.
        self.told(hanger, sample(), [], [13, 20, 1, 7])
        # The mark behind the formed sign 20 has a lesser rank than the last sign of its full row.
        table = Table([(10, 3), (11, 2)], [(20, (1, 10)), (21, (20, 11))], [])
        self.told(hanger, table, [10], [11, 1, 20, 21])

    def test_the_sign_of_a_row_of_one_is_none(self):
        self.told(hanger, sample(), [], [5])
        self.told(hanger, Table([(10, 1)], [(20, (10,)), (21, (1,))], []), [], [1, 10, 20, 21])

    def test_the_first_sign_of_a_row_is_none(self):
        self.told(hanger, sample(), [], [1, 21])

    def test_one_row_that_is_formed_is_enough(self):
        table = Table([(10, 3)], [(20, (1, 10)), (21, (2, 10)), (22, (10, 10)), (23, (3, 10))], [20, 23])
        self.told(hanger, table, [10], [1, 2, 3])
        table = Table([(10, 3)], [(20, (1, 10)), (21, (2, 10)), (22, (10, 10))], [20, 21])
        self.told(hanger, table, [], [10])

    def test_a_sign_that_hangs_on_itself(self):
        table = Table([], [(20, (1, 1))], [])
        self.told(hanger, table, [1], [20])
        self.told(stop, table, [], [1, 20])
        self.told(opens, table, [], [1, 20])

    def test_signs_of_which_the_table_says_nothing(self):
        for table in (sample(), Table([], [], [])):
            self.told(hanger, table, [], [0, 77, BIG])
            self.told(stop, table, [0, 77, BIG], [])
            self.told(opens, table, [0, 77, BIG], [])

    def test_stops(self):
        self.told(stop, sample(), [1, 3, 4, 5, 6, 7, 8], [2, 10, 11, 12, 13, *[sign for sign, row in ROWS]])

    def test_bare_signs_that_open(self):
        self.told(opens, sample(), [1, 3, 4, 5, 6, 7, 8], [2, 10, 11, 12, 13])

    def test_signs_whose_full_row_begins_with_a_stop(self):
        self.told(opens, sample(), [20, 21, 22, 23, 24, 26, 27, 28, 30, 34], [])

    def test_signs_whose_full_row_begins_with_a_mark(self):
        self.told(opens, sample(), [], [25, 32, 33])

    def test_signs_whose_full_row_begins_with_a_hanger(self):
        self.told(opens, sample(), [], [29, 31])

    def test_the_first_sign_of_the_full_row_and_not_of_the_row(self):
        table = Table([(10, 1)], [(20, (2, 10)), (21, (20, 10)), (22, (1, 2)), (23, (1,)), (24, (23, 2))], [])
        self.told(opens, table, [1, 22, 23, 24], [2, 10, 20, 21])

    def test_the_sign_nought_and_long_signs(self):
        table = Table([(BIG, 1)], [(BIG - 1, (0, BIG)), (BIG - 2, (BIG - 1, 3))], [])
        self.told(hanger, table, [BIG, 3], [0, BIG - 1, BIG - 2])
        self.told(stop, table, [0], [3, BIG, BIG - 1, BIG - 2])
        self.told(opens, table, [0, BIG - 1, BIG - 2], [3, BIG])

    def test_all_signs_of_small_tables(self):
        for table in small_tables():
            for sign in range(9):
                self.assertIs(hanger(table, sign), is_hanger(table, sign))
                self.assertIs(stop(table, sign), is_stop(table, sign))
                self.assertIs(opens(table, sign), is_stop(table, full(table, sign)[0]))

    def test_hangers_are_bare(self):
        for table in small_tables():
            for sign in (6, 7):
                self.assertIs(hanger(table, sign), False)


class Looks(unittest.TestCase):
    """What the tests of looks share."""

    def told(self, form, answer, texts):
        table = sample()
        for text in texts:
            with self.subTest(form, text=text):
                before = list(text)
                self.assertEqual(quick(table, text, form), answer)
                self.assertIs(type(quick(table, text, form)), str)
                self.assertEqual(text, before)


class QuickApart(Looks):
    """[19], for the apart form."""

    def test_yes(self):
        self.told("apart", "yes", [[1], [2], [10], [1, 10], [10, 12, 13], [12, 1, 10], [1, 2], [10, 11], [11, 10]])
        self.told("apart", "yes", [[77, 0, BIG], [1, 10, 12, 2, 10], [12, 12], [1] * 2000])

    def test_no_where_a_sign_has_a_row(self):
        self.told("apart", "no", [[sign] for sign, row in ROWS])
        self.told("apart", "no", [[20, 1], [1, 20], [1, 27, 1], [1] * 1999 + [31], [1, 10, 23]])

    def test_no_where_the_text_falls(self):
        self.told("apart", "no", [[12, 10], [1, 12, 11], [10, 1, 13, 12], [13, 10, 1], [1] * 1998 + [12, 11]])

    def test_no_where_both(self):
        self.told("apart", "no", [[20, 12, 10], [12, 10, 20]])

    def test_never_maybe(self):
        self.told("apart", "yes", [[1, 10], [2], [1, 2], [2, 2]])

    def test_the_text_of_no_signs(self):
        self.told("apart", "yes", [[]])


class QuickTogether(Looks):
    """[19], for the together form."""

    def test_yes(self):
        self.told("together", "yes", [[1], [3, 1], [20], [20, 11], [20, 13, 22, 11], [22], [21, 20, 77, 0, BIG], [11]])
        self.told("together", "yes", [[11, 13], [13, 1, 11], [13, 13], [20] * 2000])

    def test_no_where_a_sign_is_not_formed(self):
        self.told("together", "no", [[sign] for sign in (23, 24, 25, 26, 27, 28, 30, 31, 32, 33, 34)])
        self.told("together", "no", [[1, 23], [27, 1], [1, 28, 1], [20] * 1999 + [30]])

    def test_no_where_the_text_falls(self):
        self.told("together", "no", [[1, 13, 11], [13, 11], [20, 13, 11, 1], [20] * 1998 + [13, 11]])

    def test_no_ahead_of_maybe(self):
        self.told("together", "no", [[10, 23], [23, 10], [2, 27], [13, 12], [12, 10], [29, 31], [2, 13, 11]])

    def test_maybe_where_a_bare_sign_hangs(self):
        self.told("together", "maybe", [[10], [2], [12], [1, 10], [3, 10], [20, 11, 12], [2, 1], [1, 3, 2]])

    def test_maybe_where_a_full_row_begins_with_a_hanger(self):
        self.told("together", "maybe", [[29], [1, 29], [29, 1], [20] * 1999 + [29]])

    def test_maybe_of_texts_in_form_and_of_others(self):
        table = sample()
        looks = {form_of(table, text, "together") == text for text in ([1, 10], [3, 10], [10], [2, 10])}
        self.assertEqual(looks, {True, False})
        self.told("together", "maybe", [[1, 10], [3, 10], [10], [2, 10]])

    def test_a_full_row_with_a_hanger_behind_its_first_sign_is_none(self):
        self.told("together", "yes", [[20], [21], [22]])

    def test_the_text_of_no_signs(self):
        self.told("together", "yes", [[]])


class Truth(unittest.TestCase):
    """[3], [19]: yes is told of texts that are their own form alone, and no of none that is."""

    def check(self, table, text):
        for form in ("apart", "together"):
            answer = quick(table, text, form)
            self.assertEqual(answer, expected_look(table, text, form))
            if answer != "maybe":
                self.assertEqual(form_of(table, text, form) == text, answer == "yes")

    def test_small_tables(self):
        for table in list(small_tables())[::3]:
            for length in range(3):
                for text in itertools.product((1, 2, 3, 4, 6, 7), repeat=length):
                    self.check(table, list(text))

    def test_texts_of_three_signs(self):
        for table in list(small_tables())[::37]:
            for text in itertools.product((1, 2, 3, 4, 5, 6, 7), repeat=3):
                self.check(table, list(text))

    def test_the_sample(self):
        table = sample()
        signs = [1, 2, 3, 10, 11, 12, 13, *[sign for sign, row in ROWS], 77]
        for length in range(3):
            for text in itertools.product(signs, repeat=length):
                self.check(table, list(text))

    def test_the_table_that_says_nothing(self):
        for text in ([], [1], [2, 1], [1, 1, 0]):
            self.check(Table([], [], []), text)
            self.assertEqual(quick(Table([], [], []), text, "apart"), "yes")
            self.assertEqual(quick(Table([], [], []), text, "together"), "yes")


if __name__ == "__main__":
    unittest.main()
