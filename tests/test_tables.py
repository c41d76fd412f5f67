"""Tables: what they tell of signs, and how they are refused."""

import itertools
import unittest

from signforms.errors import FormError, NoPair, Ring, Same, TooLong, Twice
from signforms.tables import Table

BIG = 10 ** 60 - 1

# Ground signs 1, 2; marks 10, 11, 12; rows of one (30), of two (20, 21), and shut ones (22, 23).
MARKS = [(12, 999), (10, 5), (11, 1)]
ROWS = [(30, (1,)), (23, (2, 10)), (21, (20, 11)), (20, (1, 10)), (22, (1, 10))]
SHUTS = [23, 22]


def sample():
    return Table(list(MARKS), list(ROWS), list(SHUTS))


def chain(length, first=100):
    """Rows of two signs whose full rows have 2, 3, .. length signs, the last one's sign told, too."""
    rows = [(first, (1, 1))]
    for k in range(1, length - 1):
        rows.append((first + k, (first + k - 1, 1)))
    return rows, first + length - 2


def told_of(table, signs):
    """All that a table tells, of these signs."""
    alone = [(table.rank(s), table.row(s), table.is_shut(s)) for s in signs]
    pairs = [table.pair(one, other) for one in signs for other in signs]
    return alone, pairs, table.marks(), table.rows(), table.shuts()


class Refusals(unittest.TestCase):
    """What the tests of refusals share."""

    def refused(self, kind, marks, rows, shuts):
        with self.assertRaises(FormError) as caught:
            Table(marks, rows, shuts)
        self.assertEqual(type(caught.exception), kind)
        return caught.exception

    def assert_ring(self, rows, signs):
        """What [5] says of a ring, and that none stands in it twice."""
        row_of = dict(rows)
        self.assertIsInstance(signs, list)
        self.assertTrue(signs)
        self.assertEqual(len(set(signs)), len(signs))
        for sign, following in zip(signs, signs[1:] + signs[:1]):
            self.assertIn(following, row_of[sign])


class ToldOfASign(unittest.TestCase):
    """[4], [7]"""

    def test_marks(self):
        table = sample()
        self.assertEqual([table.rank(sign) for sign in (10, 11, 12)], [5, 1, 999])
        for sign in (10, 11, 12):
            self.assertIsNone(table.row(sign))
            self.assertIs(table.is_shut(sign), False)

    def test_signs_with_rows(self):
        table = sample()
        self.assertEqual(table.row(30), (1,))
        self.assertEqual(table.row(20), (1, 10))
        self.assertEqual(table.row(21), (20, 11))
        for sign in (20, 21, 30):
            self.assertIs(type(table.row(sign)), tuple)
            self.assertEqual(table.rank(sign), 0)
            self.assertIs(table.is_shut(sign), False)

    def test_shut_signs(self):
        table = sample()
        self.assertEqual(table.row(22), (1, 10))
        self.assertEqual(table.row(23), (2, 10))
        for sign in (22, 23):
            self.assertIs(table.is_shut(sign), True)
            self.assertEqual(table.rank(sign), 0)

    def test_signs_of_which_nothing_is_said(self):
        table = sample()
        for sign in (0, 1, 2, 77, BIG):
            self.assertEqual(table.rank(sign), 0)
            self.assertIsNone(table.row(sign))
            self.assertIs(table.is_shut(sign), False)

    def test_the_table_that_says_nothing(self):
        table = Table([], [], [])
        self.assertEqual(told_of(table, [0, 1]), ([(0, None, False)] * 2, [None] * 4, [], [], []))

    def test_the_sign_nought(self):
        table = Table([(0, 7)], [(1, (0, 0))], [])
        self.assertEqual(table.rank(0), 7)
        self.assertEqual(table.pair(0, 0), 1)
        table = Table([], [(0, (1, 2))], [])
        self.assertEqual(table.row(0), (1, 2))
        self.assertEqual(table.pair(1, 2), 0)
        self.assertIs(Table([], [(0, (1, 2))], [0]).is_shut(0), True)


class ToldOfTwoSigns(unittest.TestCase):
    """[7]"""

    def test_the_pair_in_its_order(self):
        table = sample()
        self.assertEqual(table.pair(1, 10), 20)
        self.assertEqual(table.pair(20, 11), 21)
        self.assertIsNone(table.pair(10, 1))
        self.assertIsNone(table.pair(11, 20))

    def test_both_orders_with_pairs_of_their_own(self):
        table = Table([], [(5, (1, 2)), (6, (2, 1))], [])
        self.assertEqual((table.pair(1, 2), table.pair(2, 1)), (5, 6))

    def test_one_sign_twice(self):
        table = Table([], [(5, (1, 1))], [])
        self.assertEqual(table.pair(1, 1), 5)
        self.assertIsNone(table.pair(5, 5))

    def test_none_where_the_only_one_is_shut(self):
        self.assertIsNone(sample().pair(2, 10))

    def test_the_one_that_is_not_shut_whichever_is_lesser(self):
        rows = [(5, (1, 2)), (6, (1, 2))]
        self.assertEqual(Table([], rows, [5]).pair(1, 2), 6)
        self.assertEqual(Table([], rows, [6]).pair(1, 2), 5)
        self.assertIsNone(Table([], rows, [5, 6]).pair(1, 2))

    def test_a_row_of_one_sign_makes_no_pair(self):
        table = sample()
        self.assertIsNone(table.pair(1, 1))
        self.assertIsNone(table.pair(30, 1))

    def test_no_pair_of_full_rows(self):
        table = Table([], [(5, (1,)), (6, (5, 2))], [])
        self.assertEqual(table.pair(5, 2), 6)
        self.assertIsNone(table.pair(1, 2))


class ToldLists(unittest.TestCase):
    """[7]"""

    def test_sorted_whatever_the_order(self):
        for marks in itertools.permutations(MARKS):
            for rows in itertools.permutations(ROWS):
                for shuts in itertools.permutations(SHUTS):
                    table = Table(list(marks), list(rows), list(shuts))
                    self.assertEqual(table.marks(), [(10, 5), (11, 1), (12, 999)])
                    self.assertEqual(table.rows(), sorted(ROWS))
                    self.assertEqual(table.shuts(), [22, 23])

    def test_kinds(self):
        table = sample()
        for told in (table.marks(), table.rows(), table.shuts()):
            self.assertIs(type(told), list)
        for thing in table.marks() + table.rows():
            self.assertIs(type(thing), tuple)

    def test_sorted_as_numbers(self):
        signs = [100, 20, 3, BIG]
        table = Table([(sign, 1) for sign in signs], [], [])
        self.assertEqual(table.marks(), [(3, 1), (20, 1), (100, 1), (BIG, 1)])


class Ownership(unittest.TestCase):
    """[2]"""

    signs = [0, 1, 2, 10, 11, 12, 20, 21, 22, 23, 30]

    def test_what_is_handed_in_is_only_looked_at(self):
        marks, rows, shuts = list(MARKS), list(ROWS), list(SHUTS)
        Table(marks, rows, shuts)
        self.assertEqual((marks, rows, shuts), (MARKS, ROWS, SHUTS))

    def test_what_is_refused_is_only_looked_at(self):
        marks, rows, shuts = [(2, 1), (1, 1), (2, 1)], [(4, (4,)), (3, (5,))], [9, 3, 9]
        with self.assertRaises(Twice):
            Table(marks, rows, shuts)
        self.assertEqual(marks, [(2, 1), (1, 1), (2, 1)])
        self.assertEqual((rows, shuts), ([(4, (4,)), (3, (5,))], [9, 3, 9]))

    def test_lists_emptied_afterwards(self):
        marks, rows, shuts = list(MARKS), list(ROWS), list(SHUTS)
        table = Table(marks, rows, shuts)
        for handed in (marks, rows, shuts):
            handed.clear()
        self.assertEqual(told_of(table, self.signs), told_of(sample(), self.signs))

    def test_lists_lengthened_afterwards(self):
        marks, rows, shuts = list(MARKS), list(ROWS), list(SHUTS)
        table = Table(marks, rows, shuts)
        marks.append((2, 9))
        rows.append((0, (1, 1)))
        shuts.append(20)
        self.assertEqual(told_of(table, self.signs), told_of(sample(), self.signs))

    def test_told_lists_changed(self):
        table = sample()
        for told in (table.marks(), table.rows(), table.shuts()):
            told.clear()
        for told in (table.marks(), table.rows(), table.shuts()):
            told.append(told[0])
            told.reverse()
        self.assertEqual(told_of(table, self.signs), told_of(sample(), self.signs))

    def test_a_told_list_stays_as_it_was(self):
        table = sample()
        first = (table.marks(), table.rows(), table.shuts())
        Table([(1, 1)], [(2, (1, 1))], [2])
        told_of(table, self.signs)
        self.assertEqual(first, (sorted(MARKS), sorted(ROWS), sorted(SHUTS)))

    def test_asked_again(self):
        table = sample()
        self.assertEqual(told_of(table, self.signs), told_of(table, self.signs))

    def test_asking_of_unknown_signs_adds_nothing(self):
        table = sample()
        told_of(table, list(range(40, 60)))
        self.assertEqual((table.marks(), table.rows(), table.shuts()), (sorted(MARKS), sorted(ROWS), sorted(SHUTS)))

    def test_signs_of_sixty_figures(self):
        table = Table([(BIG, 3)], [(BIG - 1, (BIG - 2, BIG)), (BIG - 3, (BIG - 2, BIG))], [BIG - 3])
        self.assertEqual(table.rank(BIG), 3)
        self.assertEqual(table.rank(BIG - 1), 0)
        self.assertEqual(table.row(BIG - 1), (BIG - 2, BIG))
        self.assertIs(table.is_shut(BIG - 3), True)
        self.assertEqual(table.pair(BIG - 2, BIG), BIG - 1)
        self.assertIsNone(table.pair(BIG, BIG - 2))

    def test_a_refused_ring_asked_twice_is_told_alike(self):
        rows = [(4, (5, 1)), (5, (4,)), (1, (2,)), (2, (1,))]
        told = []
        for attempt in range(2):
            with self.assertRaises(Ring) as caught:
                Table([], rows, [])
            told.append(list(caught.exception.signs))
            caught.exception.signs.clear()
        self.assertEqual(told[0], told[1])


class TwiceRefused(Refusals):
    """[6]"""

    def test_two_ranks(self):
        self.assertEqual(self.refused(Twice, [(5, 1), (6, 1), (5, 2)], [], []).sign, 5)
        self.assertEqual(self.refused(Twice, [(5, 1), (5, 1)], [], []).sign, 5)

    def test_two_rows(self):
        self.assertEqual(self.refused(Twice, [], [(5, (1,)), (5, (2, 3))], []).sign, 5)
        self.assertEqual(self.refused(Twice, [], [(5, (1,)), (5, (1,))], []).sign, 5)

    def test_a_rank_and_a_row(self):
        self.assertEqual(self.refused(Twice, [(5, 1)], [(5, (1,))], []).sign, 5)
        self.assertEqual(self.refused(Twice, [(5, 1)], [(5, (1, 2))], [5]).sign, 5)

    def test_twice_among_the_shut_ones(self):
        self.assertEqual(self.refused(Twice, [], [(5, (1, 2))], [5, 5]).sign, 5)
        self.assertEqual(self.refused(Twice, [], [], [5, 5]).sign, 5)

    def test_the_sign_nought(self):
        self.assertEqual(self.refused(Twice, [(0, 1)], [(0, (1,))], []).sign, 0)

    def test_the_least_of_all_sorts(self):
        ranks = [(9, 1), (9, 2)]
        rows = [(8, (1,)), (8, (2,))]
        both = ([(7, 1)], [(7, (1,))])
        self.assertEqual(self.refused(Twice, ranks, rows, [6, 6]).sign, 6)
        self.assertEqual(self.refused(Twice, ranks, rows, [10, 10]).sign, 8)
        self.assertEqual(self.refused(Twice, ranks + both[0], both[1] + rows, [10, 10]).sign, 7)
        self.assertEqual(self.refused(Twice, [(9, 1), (3, 1), (9, 1), (3, 1)], rows, []).sign, 3)
        self.assertEqual(self.refused(Twice, [], [], [8, 6, 7, 8, 7, 6]).sign, 6)

    def test_a_sign_within_rows_of_others_may_stand_there_often(self):
        table = Table([(2, 1)], [(5, (1, 2)), (6, (1, 1)), (7, (2, 2)), (8, (5, 2))], [5])
        self.assertEqual(len(table.rows()), 4)

    def test_one_rank_for_several_marks(self):
        self.assertEqual(Table([(1, 4), (2, 4)], [], []).marks(), [(1, 4), (2, 4)])


class NoPairRefused(Refusals):
    """[6]"""

    def test_no_row_at_all(self):
        self.assertEqual(self.refused(NoPair, [], [], [5]).sign, 5)

    def test_a_mark(self):
        self.assertEqual(self.refused(NoPair, [(5, 1)], [], [5]).sign, 5)

    def test_a_row_of_one_sign(self):
        self.assertEqual(self.refused(NoPair, [], [(5, (1,))], [5]).sign, 5)

    def test_a_row_of_one_sign_with_a_longer_full_row(self):
        self.assertEqual(self.refused(NoPair, [], [(5, (6,)), (6, (1, 2))], [5]).sign, 5)

    def test_the_least(self):
        self.assertEqual(self.refused(NoPair, [], [(3, (1, 2)), (5, (1,))], [9, 5, 7, 3]).sign, 5)
        self.assertEqual(self.refused(NoPair, [], [(5, (1, 2))], [0, 5, 9]).sign, 0)


class SameRefused(Refusals):
    """[6]"""

    def same(self, rows, shuts):
        told = self.refused(Same, [], rows, shuts)
        return told.one, told.other

    def test_two_signs_in_either_order(self):
        self.assertEqual(self.same([(5, (1, 2)), (6, (1, 2))], []), (5, 6))
        self.assertEqual(self.same([(6, (1, 2)), (5, (1, 2))], []), (5, 6))

    def test_the_least_tuple(self):
        rows = [(9, (1, 2)), (5, (3, 4)), (6, (1, 2)), (8, (3, 4)), (7, (1, 2))]
        self.assertEqual(self.same(rows, []), (5, 8))
        self.assertEqual(self.same(rows, [5]), (6, 7))
        self.assertEqual(self.same(rows, [5, 6]), (7, 9))

    def test_the_lesser_one_counts_ahead_of_the_lesser_other(self):
        rows = [(2, (11, 12)), (9, (11, 12)), (3, (13, 12)), (4, (13, 12))]
        self.assertEqual(self.same(rows, []), (2, 9))

    def test_three_alike(self):
        self.assertEqual(self.same([(9, (1, 2)), (7, (1, 2)), (8, (1, 2))], []), (7, 8))

    def test_the_row_of_one_sign_twice(self):
        self.assertEqual(self.same([(5, (1, 1)), (6, (1, 1))], []), (5, 6))

    def test_not_where_one_is_shut(self):
        Table([], [(5, (1, 2)), (6, (1, 2)), (7, (1, 2))], [7, 5])
        Table([], [(5, (1, 2)), (6, (1, 2))], [5, 6])

    def test_not_for_rows_of_one_sign(self):
        Table([], [(5, (1,)), (6, (1,))], [])

    def test_not_for_the_other_order(self):
        Table([], [(5, (1, 2)), (6, (2, 1))], [])

    def test_not_for_full_rows_alike(self):
        Table([], [(5, (1, 2)), (6, (7, 2)), (7, (1,))], [])


class RingRefused(Refusals):
    """[5], [6]"""

    def ring(self, rows, shuts=()):
        told = self.refused(Ring, [], rows, list(shuts)).signs
        self.assert_ring(rows, told)
        return told

    def test_of_one_sign(self):
        self.assertEqual(self.ring([(5, (5,))]), [5])
        self.assertEqual(self.ring([(5, (5, 1))]), [5])
        self.assertEqual(self.ring([(5, (1, 5))]), [5])
        self.assertEqual(self.ring([(5, (5, 5))]), [5])
        self.assertEqual(self.ring([(0, (0,))]), [0])

    def test_of_a_shut_sign(self):
        self.assertEqual(self.ring([(5, (1, 5))], [5]), [5])

    def test_of_several_signs(self):
        self.assertEqual(sorted(self.ring([(5, (6,)), (6, (5,))])), [5, 6])
        self.assertEqual(sorted(self.ring([(5, (1, 6)), (6, (7, 2)), (7, (5, 5))])), [5, 6, 7])
        rows = [(k, ((k + 1) % 60, 100 + k)) for k in range(60)]
        self.assertEqual(len(self.ring(rows)), 60)

    def test_the_order_of_the_ring_is_that_of_the_rows(self):
        # 5 has 7, 7 has 6, 6 has 5: the other way round there is no ring.
        self.ring([(5, (7,)), (7, (6,)), (6, (5,))])

    def test_signs_that_lead_into_a_ring_are_not_told(self):
        rows = [(1, (2, 90)), (2, (91, 3)), (3, (4,)), (4, (3,)), (5, (90, 91))]
        self.assertEqual(sorted(self.ring(rows)), [3, 4])

    def test_signs_to_which_a_ring_leads_are_not_told(self):
        rows = [(1, (2, 3)), (2, (3, 1)), (3, (4, 90)), (4, (90,))]
        self.assertEqual(sorted(self.ring(rows)), [1, 2])

    def test_two_rings(self):
        self.assertIn(sorted(self.ring([(5, (6,)), (6, (5,)), (1, (2,)), (2, (1,))])), ([1, 2], [5, 6]))

    def test_two_ways_to_one_sign_are_no_ring(self):
        table = Table([], [(5, (6, 7)), (6, (8,)), (7, (8, 8)), (8, (1, 2))], [])
        self.assertEqual(table.pair(6, 7), 5)


class TooLongRefused(Refusals):
    """[5], [6]"""

    def test_sixteen_are_made_seventeen_refused(self):
        rows, last = chain(16)
        self.assertEqual(Table([], rows, []).row(last), (last - 1, 1))
        rows, last = chain(17)
        self.assertEqual(self.refused(TooLong, [], rows, []).sign, last)

    def test_by_doubling(self):
        rows = [(5, (1, 1)), (4, (5, 5)), (3, (4, 4)), (2, (3, 3))]
        self.assertEqual(len(Table([], rows, []).rows()), 4)
        self.assertEqual(self.refused(TooLong, [], rows + [(9, (2, 1))], []).sign, 9)
        self.assertEqual(self.refused(TooLong, [], rows + [(9, (1, 2))], []).sign, 9)

    def test_a_row_of_one_sign_adds_none(self):
        rows, last = chain(16)
        self.assertEqual(len(Table([], rows + [(50, (last,)), (51, (50,))], []).rows()), 17)

    def test_the_least(self):
        rows, last = chain(17)
        longer = rows + [(50, (last,)), (40, (50, 50)), (30, (1, 1))]
        self.assertEqual(self.refused(TooLong, [], longer, [100]).sign, 40)
        self.assertEqual(self.refused(TooLong, [], rows + [(last + 9, (last,))], []).sign, last)

    def test_shut_signs_too(self):
        rows, last = chain(17)
        self.assertEqual(self.refused(TooLong, [], rows, [last]).sign, last)

    def test_full_rows_beyond_all_counting(self):
        rows = [(k, (k + 1, k + 1)) for k in range(60)]
        self.assertEqual(self.refused(TooLong, [], rows, []).sign, 0)


class WhichIsToldFirst(Refusals):
    """[6]: each wrong thing is added to all those that are told behind it."""

    def test_in_their_order(self):
        long_rows, last = chain(17, first=1000)
        ring = [(900, (901,)), (901, (900,))]
        same = [(800, (1, 2)), (801, (1, 2))]
        self.assertEqual(self.refused(TooLong, [], long_rows, []).sign, last)
        told = self.refused(Ring, [], long_rows + ring, []).signs
        self.assertEqual(sorted(told), [900, 901])
        told = self.refused(Same, [], long_rows + ring + same, [])
        self.assertEqual((told.one, told.other), (800, 801))
        self.assertEqual(self.refused(NoPair, [], long_rows + ring + same, [5000]).sign, 5000)
        for marks, rows, shuts in (
            ([(6000, 1), (6000, 2)], [], []),
            ([(6000, 1)], [(6000, (1,))], []),
            ([], [(6000, (1,)), (6000, (1,))], []),
            ([], [], [6000, 6000]),
        ):
            told = self.refused(Twice, marks, long_rows + ring + same + rows, [5000] + shuts)
            self.assertEqual(told.sign, 6000)

    def test_two_signs_of_a_ring_with_one_row(self):
        told = self.refused(Same, [], [(5, (5, 6)), (6, (5, 6))], [])
        self.assertEqual((told.one, told.other), (5, 6))


class Sixty(unittest.TestCase):
    """[6]"""

    def test_sixty_of_each(self):
        marks = [(1000 + k, 1 + (k * 37) % 999) for k in range(60)]
        rows = [(2000 + k, (1, 1000 + k)) for k in range(60)]
        shuts = [2000 + k for k in range(60)]
        table = Table(marks[::-1], rows[30:] + rows[:30], shuts[::-1])
        self.assertEqual((table.marks(), table.rows(), table.shuts()), (marks, rows, shuts))
        self.assertEqual([table.rank(sign) for sign, rank in marks], [rank for sign, rank in marks])
        self.assertEqual([table.row(sign) for sign, row in rows], [row for sign, row in rows])
        self.assertTrue(all(table.is_shut(sign) for sign in shuts))
        self.assertTrue(all(table.pair(1, 1000 + k) is None for k in range(60)))

    def test_sixty_rows_not_shut(self):
        table = Table([], [(2000 + k, (1, 1000 + k)) for k in range(60)], [])
        self.assertEqual([table.pair(1, 1000 + k) for k in range(60)], [2000 + k for k in range(60)])

    def test_sixty_rows_one_within_the_other(self):
        rows = [(k, (k + 1,)) for k in range(60)]
        self.assertEqual(Table([], rows, []).rows(), rows)
        self.assertEqual(Table([], rows[::-1], []).rows(), rows)


class AllSmallTables(Refusals):
    """[5], [6], [7], put beside what the document says, word by word, of every table of some small signs."""

    row_choices = [None] + [(a,) for a in range(3)] + list(itertools.product(range(3), repeat=2))

    def expected(self, rows, shuts):
        row_of = dict(rows)
        no_pair = [sign for sign in shuts if len(row_of.get(sign, ())) != 2]
        if no_pair:
            return NoPair, min(no_pair)
        plain = [(sign, row) for sign, row in rows if len(row) == 2 and sign not in shuts]
        same = [(one, other) for one, row in plain for other, also in plain if one < other and row == also]
        if same:
            return Same, min(same)
        for length in (1, 2, 3):
            for signs in itertools.permutations(row_of, length):
                if all(after in row_of[sign] for sign, after in zip(signs, signs[1:] + signs[:1])):
                    return Ring, None
        return None, {row: sign for sign, row in plain}

    def check(self, rows, shuts):
        kind, told = self.expected(rows, shuts)
        if kind is None:
            table = Table([], rows, shuts)
            for one, other in itertools.product(range(4), repeat=2):
                self.assertEqual(table.pair(one, other), told.get((one, other)))
            return
        error = self.refused(kind, [], rows, shuts)
        if kind is NoPair:
            self.assertEqual(error.sign, told)
        elif kind is Same:
            self.assertEqual((error.one, error.other), told)
        else:
            self.assert_ring(rows, error.signs)

    def test_all(self):
        some_shuts = [list(shuts) for size in range(4) for shuts in itertools.combinations((2, 1, 0), size)]
        for choice in itertools.product(self.row_choices, repeat=3):
            rows = [(sign, row) for sign, row in enumerate(choice) if row is not None]
            for shuts in some_shuts:
                self.check(rows, shuts)


if __name__ == "__main__":
    unittest.main()
