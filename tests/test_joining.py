"""Putting together: the together form, formed signs, the form of a text by the form's name."""

import itertools
import unicodedata
import unittest

from signforms.joining import form_of, formed, together
from signforms.opening import full, opened
from signforms.ordering import apart
from signforms.tables import Table

BIG = 10 ** 60 - 1

# The example of [14]: a ground sign a, marks m, n of ranks 3, 5, and a row (a, n) of t.
A, M, N, T = 1, 10, 11, 20


def example(more_marks=(), more_rows=(), shuts=()):
    return Table([(M, 3), (N, 5), *more_marks], [(T, (A, N)), *more_rows], list(shuts))


def small_tables():
    """Tables of two ground signs (1, 2), three marks (3; 4 and 5 of one rank), and two signs with every row there is."""
    marks = [(3, 1), (4, 2), (5, 2)]

    def rows_of(signs):
        return [(one,) for one in signs] + list(itertools.product(signs, repeat=2))

    for first, second in itertools.product(rows_of((1, 2, 3, 4, 5)), rows_of((1, 2, 3, 4, 5, 6))):
        pairs = [sign for sign, row in ((6, first), (7, second)) if len(row) == 2]
        for size in range(len(pairs) + 1):
            for shuts in itertools.combinations(pairs, size):
                if not (first == second and len(pairs) == 2 and not shuts):
                    yield Table(marks, [(6, first), (7, second)], list(shuts))


def deep_tables():
    """Tables of signs with rows of rows, of which some are formed, in some dozen ways."""
    marks = [(10, 1), (11, 1), (12, 2), (13, 3)]
    inner = [(20, (1, 10)), (21, (1, 12)), (22, (1, 2))]
    for second in (2, 10, 11, 12, 13, 20):
        for third in (1, 10, 12, 13):
            rows = inner + [(30, (20, second)), (31, (21, second)), (32, (22, second)), (40, (30, third)), (41, (31,))]
            for shuts in ([], [20], [31], [30, 22]):
                yield Table(marks, rows, shuts)


def is_bare(table, sign):
    return table.row(sign) is None


def is_ground(table, sign):
    return is_bare(table, sign) and table.rank(sign) == 0


def is_formed_by_its_row(table, sign):
    """The last words of [15]."""
    if is_bare(table, sign):
        return True
    row = table.row(sign)
    if table.is_shut(sign) or len(row) != 2:
        return False
    first, second = row
    if not is_formed_by_its_row(table, first) or table.rank(first) > 0 or not is_bare(table, second):
        return False
    return is_ground(table, second) or table.rank(second) >= table.rank(full(table, first)[-1])


class Together(unittest.TestCase):
    """[14]"""

    def test_the_example(self):
        table = example()
        self.assertEqual(apart(table, [A, N, M]), [A, M, N])
        self.assertEqual(together(table, [A, N, M]), [T, M])
        self.assertEqual(together(table, [A, M, N]), [T, M])
        self.assertEqual(together(table, [T, M]), [T, M])

    def test_the_text_of_no_signs(self):
        told = together(example(), [])
        self.assertEqual(told, [])
        self.assertIs(type(told), list)

    def test_what_has_no_pair_stays(self):
        table = example()
        for text in ([A], [N], [A, M], [2, N], [A, A], [77, 0, BIG], [M, N], [A, M, A]):
            told = together(table, text)
            self.assertIs(type(told), list)
            self.assertEqual(told, text)

    def test_the_table_that_says_nothing(self):
        self.assertEqual(together(Table([], [], []), [3, 1, 2]), [3, 1, 2])

    def test_taken_by_the_holder_next_to_it(self):
        self.assertEqual(together(example(), [A, N]), [T])
        self.assertEqual(together(example(), [2, A, N, 2]), [2, T, 2])

    def test_taken_behind_marks_of_lesser_rank(self):
        table = example([(12, 3), (13, 4)])
        self.assertEqual(together(table, [A, M, 12, 13, N]), [T, M, 12, 13])
        self.assertEqual(together(table, [A, M, N, M, N]), [T, M, M, N])

    def test_barred_behind_a_mark_of_the_same_rank(self):
        table = example([(12, 5)])
        self.assertEqual(together(table, [A, 12, N]), [A, 12, N])
        self.assertEqual(together(table, [A, N, 12]), [T, 12])
        self.assertEqual(together(table, [A, M, 12, N]), [A, M, 12, N])
        self.assertEqual(together(table, [A, M, N, 12]), [T, M, 12])

    def test_barred_behind_itself(self):
        table = Table([(N, 5)], [(T, (2, N)), (21, (T, N))], [])
        self.assertEqual(together(table, [A, N, N]), [A, N, N])
        self.assertEqual(together(table, [2, N, N]), [21])

    def test_greater_ranks_are_put_behind_and_do_not_bar(self):
        table = example([(12, 6)])
        self.assertEqual(together(table, [A, 12, N]), [T, 12])

    def test_a_mark_may_be_taken_behind_one_that_was_not(self):
        table = Table([(10, 1), (11, 2), (12, 3)], [(20, (1, 10)), (21, (20, 12)), (22, (1, 12))], [])
        self.assertEqual(together(table, [1, 10, 11, 12]), [21, 11])
        self.assertEqual(together(table, [1, 11, 12]), [22, 11])

    def test_the_pair_goes_on_holding(self):
        table = Table([(10, 1), (11, 2)], [(20, (1, 10)), (21, (20, 11)), (22, (1, 11))], [])
        self.assertEqual(together(table, [1, 10, 11]), [21])
        self.assertEqual(together(table, [1, 11, 10]), [21])
        self.assertEqual(together(table, [1, 11]), [22])
        self.assertEqual(together(table, [22, 10]), [21])
        self.assertEqual(together(table, [1, 10, 1, 11, 2, 10]), [20, 22, 2, 10])

    def test_a_ground_sign_taken_by_the_holder_next_to_it(self):
        table = Table([(10, 1)], [(20, (1, 2)), (21, (20, 3)), (22, (20, 10))], [])
        self.assertEqual(together(table, [1, 2]), [20])
        self.assertEqual(together(table, [1, 2, 3]), [21])
        self.assertEqual(together(table, [1, 2, 10]), [22])
        self.assertEqual(together(table, [1, 2, 10, 3]), [22, 3])
        self.assertEqual(together(table, [1, 1, 2, 2]), [1, 20, 2])

    def test_a_ground_sign_taken_goes_next_to_what_took_a_mark(self):
        table = Table([(10, 1)], [(20, (1, 10)), (21, (20, 2))], [])
        self.assertEqual(together(table, [1, 10, 2]), [21])

    def test_a_ground_sign_is_not_taken_behind_a_mark(self):
        table = Table([(10, 1), (11, 1)], [(20, (1, 2)), (21, (1, 11))], [])
        self.assertEqual(together(table, [1, 10, 2]), [1, 10, 2])
        self.assertEqual(together(table, [1, 11, 2]), [21, 2])

    def test_a_ground_sign_that_is_not_taken_holds_from_then_on(self):
        table = example(more_rows=[(21, (2, N))])
        self.assertEqual(together(table, [A, 2, N]), [A, 21])
        self.assertEqual(together(table, [2, A, N]), [2, T])
        self.assertEqual(together(table, [A, 3, N]), [A, 3, N])

    def test_no_holder_at_the_beginning(self):
        table = Table([(10, 1), (11, 2)], [(20, (10, 11)), (21, (10, 1)), (22, (1, 11))], [])
        self.assertEqual(together(table, [10, 11]), [10, 11])
        self.assertEqual(together(table, [10, 1]), [10, 1])
        self.assertEqual(together(table, [11, 1, 11]), [11, 22])
        self.assertEqual(together(table, [20]), [10, 11])
        self.assertEqual(together(table, [21]), [10, 1])
        self.assertEqual(together(table, [10, 10, 11]), [10, 10, 11])

    def test_marks_do_not_hold(self):
        table = Table([(10, 1), (11, 2)], [(20, (10, 11))], [])
        self.assertEqual(together(table, [1, 10, 11]), [1, 10, 11])

    def test_shut_signs_are_never_told(self):
        table = Table([(N, 5)], [(T, (A, N)), (21, (2, N)), (22, (2, N)), (23, (T, A))], [T, 21])
        self.assertEqual(together(table, [T]), [A, N])
        self.assertEqual(together(table, [A, N]), [A, N])
        self.assertEqual(together(table, [21]), [22])
        self.assertEqual(together(table, [23]), [A, N, A])

    def test_rows_of_one_sign_are_never_told(self):
        table = example(more_rows=[(30, (A,)), (31, (T,)), (32, (N,)), (33, (30, N))])
        self.assertEqual(together(table, [30]), [A])
        self.assertEqual(together(table, [31]), [T])
        self.assertEqual(together(table, [30, 32]), [T])
        self.assertEqual(together(table, [33]), [T])

    def test_a_row_whose_second_sign_is_not_bare(self):
        table = example(more_rows=[(21, (2, T))])
        self.assertEqual(together(table, [21]), [2, T])

    def test_a_row_that_falls(self):
        table = example(more_rows=[(21, (T, M)), (22, (A, M))])
        self.assertEqual(together(table, [21]), [22, N])

    def test_the_sign_nought_made_and_holding(self):
        table = Table([(10, 1)], [(0, (1, 10)), (5, (0, 10))], [])
        self.assertEqual(together(table, [1, 10]), [0])
        self.assertEqual(together(table, [1, 10, 10]), [5])
        self.assertEqual(together(Table([(10, 1)], [(5, (0, 10))], []), [0, 10]), [5])
        self.assertEqual(together(Table([(0, 1)], [(5, (1, 0))], []), [1, 0]), [5])

    def test_signs_of_sixty_figures(self):
        table = Table([(BIG, 999)], [(BIG - 2, (BIG - 1, BIG))], [])
        self.assertEqual(together(table, [BIG - 1, BIG]), [BIG - 2])

    def test_sixteen_signs(self):
        rows = [(100, (1, 2))] + [(100 + k, (99 + k, 2 + k)) for k in range(1, 15)]
        table = Table([], rows, [])
        self.assertEqual(together(table, list(range(1, 17))), [114])
        self.assertEqual(together(table, [114, 17, 113, 16]), [114, 17, 114])

    def test_two_thousand_signs(self):
        table = example()
        self.assertEqual(together(table, [A, N, M, 2] * 500), [T, M, 2] * 500)
        self.assertEqual(together(table, [A] + [M] * 1998 + [N]), [T] + [M] * 1998)
        self.assertEqual(together(table, [N] * 1000 + [M] * 1000), [M] * 1000 + [N] * 1000)


class FormsOfForms(unittest.TestCase):
    """[3], [15]"""

    def check(self, table, text):
        one, other = apart(table, text), together(table, text)
        self.assertEqual(apart(table, other), one)
        self.assertEqual(together(table, one), other)
        self.assertEqual(apart(table, one), one)
        self.assertEqual(together(table, other), other)
        for sign in other:
            self.assertTrue(formed(table, sign))

    def test_small_tables(self):
        texts = [list(text) for text in itertools.product(range(1, 8), repeat=3)]
        for number, table in enumerate(small_tables()):
            for text in texts[number % 89::89]:
                self.check(table, text)

    def test_deep_tables(self):
        signs = (1, 2, 10, 11, 12, 13, 20, 21, 22, 30, 31, 32, 40, 41)
        texts = [list(text) for text in itertools.product(signs, repeat=4)]
        for number, table in enumerate(deep_tables()):
            for text in texts[number % 613::613]:
                self.check(table, text)

    def test_texts_opened_have_the_same_forms(self):
        for table in deep_tables():
            for text in ([40, 13, 10], [22, 31], [10, 32, 12, 20, 10, 2], [41, 41]):
                for same in (opened(table, text), apart(table, text), together(table, text)):
                    self.assertEqual(apart(table, same), apart(table, text))
                    self.assertEqual(together(table, same), together(table, text))


class Formed(unittest.TestCase):
    """[15]"""

    def test_bare_signs(self):
        table = example()
        for sign in (A, M, N, 0, 77, BIG):
            self.assertIs(formed(table, sign), True)

    def test_a_row_of_a_ground_sign_and_a_mark(self):
        self.assertIs(formed(example(), T), True)

    def test_shut_signs_never(self):
        self.assertIs(formed(example(shuts=[T]), T), False)
        self.assertIs(formed(example(more_rows=[(21, (A, N))], shuts=[21]), 21), False)
        self.assertIs(formed(example(more_rows=[(21, (A, N))], shuts=[21]), T), True)

    def test_rows_of_one_sign_never(self):
        table = example(more_rows=[(30, (A,)), (31, (T,)), (32, (N,))])
        for sign in (30, 31, 32):
            self.assertIs(formed(table, sign), False)

    def test_the_first_sign_is_formed_and_no_mark(self):
        table = example(more_rows=[(21, (M, N)), (22, (M, A)), (23, (T, N)), (24, (30, N)), (30, (A,)), (25, (26, N)),
                                   (26, (2, M)), (31, (M,)), (32, (31, A))], shuts=[26])
        told = [sign for sign, row in table.rows() if formed(table, sign)]
        self.assertEqual(told, [T, 23])

    def test_the_second_sign_is_bare(self):
        table = example(more_rows=[(21, (2, T)), (22, (2, 30)), (30, (N,)), (23, (2, A)), (24, (2, N))])
        told = [sign for sign, row in table.rows() if formed(table, sign)]
        self.assertEqual(told, [T, 23, 24])

    def test_the_second_sign_is_of_no_lesser_rank(self):
        table = example([(12, 5), (13, 6)], [(21, (T, M)), (22, (T, 12)), (23, (T, 13)), (24, (T, N)), (25, (T, 2)),
                                             (26, (25, M))])
        told = [sign for sign, row in table.rows() if formed(table, sign)]
        self.assertEqual(told, [T, 22, 23, 24, 25, 26])

    def test_it_is_its_own_together_form(self):
        for table in itertools.chain(small_tables(), deep_tables()):
            for sign, row in table.rows():
                self.assertIs(formed(table, sign), together(table, [sign]) == [sign])

    def test_as_its_row_tells(self):
        found = {True: 0, False: 0}
        for table in itertools.chain(small_tables(), deep_tables()):
            for sign in [1, 3, *(sign for sign, row in table.rows())]:
                told = formed(table, sign)
                self.assertIs(told, is_formed_by_its_row(table, sign), (sign, table.marks(), table.rows()))
                found[told] += 1
        self.assertGreater(min(found.values()), 1000)

    def test_the_full_row_begins_with_a_ground_sign(self):
        for table in itertools.chain(small_tables(), deep_tables()):
            for sign, row in table.rows():
                if formed(table, sign):
                    self.assertTrue(is_ground(table, full(table, sign)[0]))


class FormOf(unittest.TestCase):
    """The interface of joining."""

    def test_by_the_name_of_the_form(self):
        table = example()
        self.assertEqual(form_of(table, [A, N, M], "apart"), [A, M, N])
        self.assertEqual(form_of(table, [A, N, M], "together"), [T, M])
        self.assertEqual(form_of(table, [], "apart"), [])
        self.assertEqual(form_of(table, [], "together"), [])

    def test_it_is_what_apart_and_together_tell(self):
        table = example(more_rows=[(21, (2, T)), (30, (T,))])
        for text in itertools.product((A, 2, M, N, T, 21, 30), repeat=3):
            self.assertEqual(form_of(table, list(text), "apart"), apart(table, list(text)))
            self.assertEqual(form_of(table, list(text), "together"), together(table, list(text)))


class LettersOfPythonsOwn(unittest.TestCase):
    """[13], [14] beside the forms of Python's own texts, which are made by the same rule from a far greater table."""

    bare = set("aes\u0300\u0301\u0302\u0307\u0323\u0338\u0915\u093c\u09c7\u09be\u09d7\u1100\u1161\u11a8")

    def letters_with_rows(self):
        """All letters of which the full row is of the bare ones above; so with one, those in its row are here, too."""
        # Python does not tell these two rows by name.
        found = {"\uac00": (0x1100, 0x1161), "\uac01": (0xAC00, 0x11A8)}
        for code in range(0x20000):
            words = unicodedata.decomposition(chr(code)).split()
            if words and not words[0].startswith("<") and set(unicodedata.normalize("NFD", chr(code))) <= self.bare:
                found[chr(code)] = tuple(int(word, 16) for word in words)
        return found

    def test_both_forms(self):
        rows = self.letters_with_rows()
        ranks = [(ord(sign), unicodedata.combining(sign)) for sign in self.bare if unicodedata.combining(sign)]
        pairs = [sign for sign in rows if len(rows[sign]) == 2]
        shuts = [ord(sign) for sign in pairs if unicodedata.normalize("NFC", sign) != sign]
        self.assertTrue(20 < len(rows) <= 60, len(rows))
        self.assertTrue(shuts)
        table = Table(ranks, [(ord(sign), row) for sign, row in rows.items()], shuts)
        signs = sorted(self.bare | set(rows))
        for text in itertools.product(signs, repeat=3):
            self.check(table, "".join(text))
        for number, text in enumerate(itertools.product(signs[::3], repeat=4)):
            self.check(table, "".join(text) + signs[number % len(signs)])

    def check(self, table, text):
        codes = [ord(sign) for sign in text]
        self.assertEqual(apart(table, codes), [ord(sign) for sign in unicodedata.normalize("NFD", text)], codes)
        self.assertEqual(together(table, codes), [ord(sign) for sign in unicodedata.normalize("NFC", text)], codes)


if __name__ == "__main__":
    unittest.main()
