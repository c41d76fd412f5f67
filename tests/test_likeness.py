"""Alike texts, and the steps that lead from the one to the other."""

import itertools
import unittest

from signforms.errors import FormError, TooMany, Unlike
from signforms.joining import together
from signforms.likeness import alike, steps
from signforms.onestep import done
from signforms.opening import opened
from signforms.ordering import apart
from signforms.tables import Table

BIG = 10 ** 60 - 1

# Ground signs 1, 2; marks 10 and 11 of one rank, 12; rows of two (20, 21, 24), of one (30, 31), shut ones (22, 23).
MARKS = [(10, 3), (11, 3), (12, 5)]
ROWS = [(20, (1, 10)), (21, (20, 12)), (22, (1, 10)), (23, (2, 2)), (24, (10, 12)), (30, (2,)), (31, (20,))]
SHUTS = [22, 23]
SIGNS = [1, 2, 10, 11, 12, 20, 21, 22, 23, 24, 30, 31]


def sample():
    return Table(list(MARKS), list(ROWS), list(SHUTS))


def doubling():
    """Rows of two, four, eight and sixteen signs: of 102, 104, 108, 116; and one of fifteen, of 115."""
    rows = [(102, (1, 2)), (104, (102, 102)), (108, (104, 104)), (116, (108, 108))]
    return Table([(10, 3), (12, 5)], rows + [(103, (102, 1)), (107, (104, 103)), (115, (108, 107))], [])


def openings(table, text):
    """[17]: a bare sign has none, another one has one more than the signs of its row together."""
    return sum(1 + openings(table, table.row(sign)) for sign in text if table.row(sign) is not None)


def pairs_that_fall(table, text):
    """[12]: pairs of marks, with nothing but marks between, of which the one ahead has the greater rank."""
    ranks = [table.rank(sign) for sign in text]
    pairs = itertools.combinations(range(len(ranks)), 2)
    return sum(min(ranks[k:m + 1]) > 0 and ranks[k] > ranks[m] for k, m in pairs)


def most_steps(table, one, other):
    return sum(openings(table, text) + pairs_that_fall(table, opened(table, text)) for text in (one, other))


def one_step_away(text):
    """[16], word by word: all texts that one step leads to."""
    rank_of, row_of = dict(MARKS), dict(ROWS)
    for k, sign in enumerate(text):
        if sign in row_of:
            yield text[:k] + row_of[sign] + text[k + 1:]
        for closed, row in ROWS:
            if text[k:k + len(row)] == row:
                yield text[:k] + (closed,) + text[k + len(row):]
        if k + 1 < len(text):
            one, other = rank_of.get(sign, 0), rank_of.get(text[k + 1], 0)
            if one > 0 and other > 0 and one != other:
                yield text[:k] + (text[k + 1], sign) + text[k + 2:]


def all_reached(text):
    """All texts that steps lead to; they are not without end, as no step makes the opened text longer."""
    seen, waiting = {text}, [text]
    while waiting:
        for found in one_step_away(waiting.pop()):
            if found not in seen:
                seen.add(found)
                waiting.append(found)
    return seen


class Leading(unittest.TestCase):
    """What the tests of likeness share."""

    def lead(self, one, other, table=None):
        table = sample() if table is None else table
        before = list(one), list(other)
        told = steps(table, one, other)
        self.assertEqual((one, other), before)
        self.assertIs(alike(table, one, other), True)
        self.assertIs(type(told), list)
        self.assertLessEqual(len(told), most_steps(table, one, other))
        text = list(one)
        for step in told:
            self.assertIs(type(step), tuple)
            text = done(table, text, step)
        self.assertEqual(text, other)
        return told

    def both_ways(self, one, other, table=None):
        there = self.lead(one, other, table)
        again = self.lead(other, one, table)
        return len(there), len(again)

    def unlike(self, one, other, at, table=None):
        table = sample() if table is None else table
        for first, second in ((one, other), (other, one)):
            with self.assertRaises(FormError) as caught:
                steps(table, first, second)
            self.assertIs(type(caught.exception), Unlike)
            self.assertEqual(caught.exception.at, at)
            self.assertIs(alike(table, first, second), False)

    def too_many(self, one, other, table=None):
        table = sample() if table is None else table
        for first, second in ((one, other), (other, one)):
            with self.assertRaises(FormError) as caught:
                steps(table, first, second)
            self.assertIs(type(caught.exception), TooMany)


class Steps(Leading):
    """[17]: the steps told."""

    def test_none_where_both_are_the_same(self):
        for text in ([], [1], [20], [12, 10], [21, 22, 23, 24, 30, 31], [1, 12, 10, 11], [77, 0, BIG], [1] * 60):
            told = steps(sample(), text, list(text))
            self.assertIs(type(told), list)
            self.assertEqual(told, [])
            self.assertEqual(steps(sample(), text, text), [])

    def test_opened(self):
        self.assertEqual(self.lead([20], [1, 10]), [("open", 0)])
        self.assertEqual(self.lead([2, 30], [2, 2]), [("open", 1)])
        self.assertEqual(self.lead([77, 24], [77, 10, 12]), [("open", 1)])
        self.assertEqual(self.both_ways([21], [1, 10, 12]), (2, 2))

    def test_closed(self):
        self.assertEqual(self.lead([1, 10], [20]), [("close", 0, 20)])
        self.assertEqual(self.lead([77, 10, 12], [77, 24]), [("close", 1, 24)])

    def test_exchanged(self):
        self.assertEqual(self.lead([12, 10], [10, 12]), [("swap", 0)])
        self.assertEqual(self.lead([1, 10, 12], [1, 12, 10]), [("swap", 1)])
        self.both_ways([12, 12, 10, 11], [10, 11, 12, 12])
        self.both_ways([12, 10, 12, 11], [10, 12, 11, 12])

    def test_shut_signs_opened_and_closed(self):
        self.assertEqual(self.lead([22], [1, 10]), [("open", 0)])
        self.assertEqual(self.lead([1, 10], [22]), [("close", 0, 22)])
        self.assertEqual(self.both_ways([22], [20]), (2, 2))
        self.assertEqual(self.both_ways([23, 2, 2], [2, 2, 23]), (2, 2))
        self.both_ways([23, 2], [2, 23])

    def test_rows_of_one_sign_opened_and_closed(self):
        self.assertEqual(self.lead([30], [2]), [("open", 0)])
        self.assertEqual(self.lead([2], [30]), [("close", 0, 30)])
        self.both_ways([31], [22])
        self.both_ways([30, 2, 31], [23, 20])
        self.both_ways([30, 30], [23])

    def test_all_sorts_together(self):
        self.both_ways([31, 12, 11, 30, 30], [22, 11, 12, 23])
        self.both_ways([21, 10, 24, 2], [1, 24, 10, 24, 30])
        self.both_ways([1, 12, 12, 10, 10], [31, 24, 12])

    def test_the_sign_nought_and_long_signs(self):
        table = Table([(0, 1), (BIG, 2)], [(BIG - 1, (5, 0)), (6, (BIG,))], [])
        self.both_ways([BIG - 1, 6], [5, BIG, 0], table)

    def test_a_sign_of_many_rows(self):
        self.assertEqual(self.both_ways([116], [1, 2] * 8, doubling()), (15, 15))
        self.both_ways([116, 12, 10], [104] * 4 + [10, 12], doubling())

    def test_many_marks(self):
        one = [1] + [12] * 20 + [10, 11] * 10
        self.both_ways(one, [20, 11] + [10, 11] * 9 + [12] * 20)
        self.both_ways(one, [1] + [10, 12, 11, 12] * 10)

    def test_forms(self):
        """[3]: each form is alike the text."""
        table = sample()
        for text in itertools.product(SIGNS, repeat=3):
            self.lead(list(text), apart(table, list(text)))
            self.lead(list(text), together(table, list(text)))


class Unalike(Leading):
    """[17]: the first place at which the apart forms differ."""

    def test_at_the_first_place(self):
        self.unlike([1, 10], [2, 10], 0)
        self.unlike([20], [30], 0)
        self.unlike([1], [77], 0)

    def test_at_the_last_place(self):
        self.unlike([1, 2, 10], [1, 2, 11], 2)
        self.unlike([21], [1, 10, 10], 2)
        self.unlike([2] * 59 + [1], [2] * 60, 59)

    def test_between(self):
        self.unlike([1, 2, 1], [1, 1, 1], 1)
        self.unlike([23, 1, 2], [30, 2, 2, 2], 2)

    def test_where_one_ends(self):
        self.unlike([], [1], 0)
        self.unlike([], [21, 21], 0)
        self.unlike([1], [1, 10], 1)
        self.unlike([1, 10], [21], 2)
        self.unlike([2] * 59, [2] * 60, 59)
        self.unlike([23], [23, 23], 2)

    def test_places_of_the_apart_forms_and_not_of_the_texts(self):
        self.unlike([21, 1], [21, 2], 3)
        self.unlike([20, 1], [1, 10, 2], 2)
        self.unlike([1, 12, 10], [1, 12, 11], 1)
        self.unlike([1, 12, 10, 1], [1, 10, 12, 2], 3)

    def test_marks_of_one_rank_keep_their_turn(self):
        self.unlike([1, 10, 11], [1, 11, 10], 1)
        self.unlike([12, 10, 11], [11, 12, 10], 0)

    def test_marks_do_not_pass_other_signs(self):
        self.unlike([1, 10, 2], [1, 2, 10], 1)
        self.unlike([12, 1, 10], [10, 1, 12], 0)


class TooManySigns(Leading):
    """[17]: apart forms of at most sixty signs."""

    def test_sixty_signs(self):
        self.lead([20] * 30, [1, 10] * 30)
        self.lead([1, 10] * 30, [20] * 30)
        self.lead([22] * 30, [31] * 30)
        self.lead([12, 10] * 30, [10] * 30 + [12] * 30)
        self.both_ways([115] * 4, [108, 107] * 4, doubling())
        self.assertEqual(steps(sample(), [1] * 60, [1] * 60), [])

    def test_sixty_one_signs(self):
        self.too_many([20] * 30 + [1], [1, 10] * 30 + [1])
        self.too_many([20] * 30 + [30], [20] * 30 + [2])
        self.too_many([115] * 4 + [1], [115] * 4 + [1], doubling())

    def test_few_signs_with_long_rows(self):
        self.too_many([116] * 4, [116] * 4, doubling())
        self.too_many([116] * 4, [108] * 8, doubling())

    def test_both_the_same(self):
        self.too_many([1] * 61, [1] * 61)
        self.too_many([1] * 2000, [1] * 2000)

    def test_ahead_of_unlike(self):
        self.too_many([1] * 61, [2] * 61)
        self.too_many([1] * 61, [])
        self.too_many([1] * 61, [1] * 60)
        self.too_many([20] * 31, [2])
        self.too_many([116] * 4, [2], doubling())

    def test_many_signs_in_a_text_are_not_asked_for(self):
        self.unlike([20] * 30, [2], 0)
        self.unlike([2] * 60, [1] * 60, 0)


class Alike(Leading):
    """[17]: whether alike, of texts of any length."""

    def test_long_texts(self):
        table = sample()
        for times in (31, 61, 500, 1000):
            self.assertIs(alike(table, [20] * times, [1, 10] * times), True)
            self.assertIs(alike(table, [1, 10] * times, [22] * times), True)
            self.assertIs(alike(table, [1, 10] * times, [20] * (times - 1) + [1, 11]), False)
            self.assertIs(alike(table, [20] * times, [20] * (times - 1)), False)
            self.assertIs(alike(table, [12, 10] * times, [10] * times + [12] * times), True)
        self.assertIs(alike(doubling(), [116] * 2000, [108, 104, 104] * 2000), True)

    def test_texts_of_no_signs(self):
        self.assertIs(alike(sample(), [], []), True)
        self.assertIs(alike(sample(), [], [1]), False)
        self.assertIs(alike(sample(), [1], []), False)

    def test_the_table_that_says_nothing(self):
        table = Table([], [], [])
        for one, other in itertools.product([[], [1], [2], [1, 2], [2, 1]], repeat=2):
            self.assertIs(alike(table, one, other), one == other)

    def test_ordinary_texts(self):
        self.assertIs(alike(sample(), [21], [22, 12]), True)
        self.assertIs(alike(sample(), [21], [1, 12, 10]), True)
        self.assertIs(alike(sample(), [21], [1, 12, 11]), False)


class AllSmallTexts(Leading):
    """[3], [17], put beside what single steps by themselves lead to."""

    def test_alike_just_where_steps_lead(self):
        table = sample()
        texts = [text for length in range(3) for text in itertools.product(SIGNS, repeat=length)]
        for one in texts:
            reached = all_reached(one)
            for other in texts:
                self.assertIs(alike(table, list(one), list(other)), other in reached)

    def test_steps_to_all_that_is_reached(self):
        for one in itertools.product(SIGNS, repeat=2):
            for other in all_reached(one):
                self.both_ways(list(one), list(other))

    def test_steps_among_longer_texts(self):
        for one in ((1, 12, 10, 2, 2), (20, 24), (12, 12, 10, 10), (21, 22), (2, 2, 2, 2)):
            reached = sorted(all_reached(one))
            for other, another in zip(reached, reached[1:] + reached[:1]):
                self.lead(list(other), list(another))

    def test_the_place_told_of_unlike_ones(self):
        table = sample()
        texts = [text for length in range(3) for text in itertools.product(SIGNS, repeat=length)]
        for one, other in itertools.combinations(texts, 2):
            forms = apart(table, list(one)), apart(table, list(other))
            if forms[0] != forms[1]:
                differ = [first != second for first, second in itertools.zip_longest(*forms)]
                self.unlike(list(one), list(other), differ.index(True), table)


if __name__ == "__main__":
    unittest.main()
