"""Tables looked through: lost rows, idle shut signs, the least table."""

import itertools
import unittest

from signforms.errors import Same
from signforms.joining import formed, together
from signforms.opening import full
from signforms.ordering import apart
from signforms.reading import read, shown
from signforms.tables import Table
from signforms.tidy import idle, least, lost

BIG = 10 ** 60 - 1

# Ground signs 1 to 9; marks 10 and 11 of one rank, 12.
MARKS = [(10, 3), (11, 3), (12, 5)]


def with_rows(rows, shuts=()):
    return Table(list(MARKS), list(rows), list(shuts))


def small_tables():
    """Tables of two ground signs (1, 2), three marks (3; 4 and 5 of one rank), and two signs with every row there is."""
    marks = [(3, 4), (4, 7), (5, 7)]

    def rows_of(signs):
        return [(one,) for one in signs] + list(itertools.product(signs, repeat=2))

    for first, second in itertools.product(rows_of((1, 2, 3, 4, 5)), rows_of((1, 2, 3, 4, 5, 6))):
        pairs = [sign for sign, row in ((6, first), (7, second)) if len(row) == 2]
        for size in range(len(pairs) + 1):
            for shuts in itertools.combinations(pairs, size):
                if not (first == second and len(pairs) == 2 and not shuts):
                    yield Table(marks, [(6, first), (7, second)], list(shuts))


def deep_tables():
    """Tables with rows of rows and twins, with many lists of shut signs."""
    marks = [(3, 20), (4, 999), (5, 999)]
    for third in ((6, 3), (6, 4), (6, 2), (7, 3), (2, 6), (1, 3), (3, 1)):
        rows = [(6, (1, 3)), (7, (6, 4)), (8, third), (9, (1, 3)), (20, (8, 5)), (21, third)]
        for size in range(1, 6):
            for shuts in itertools.combinations((6, 7, 8, 9, 20, 21), size):
                try:
                    yield Table(marks, rows, list(shuts))
                except Same:
                    continue


def is_formed_by_its_row(table, sign):
    """The last words of [15]."""
    row = table.row(sign)
    if row is None:
        return True
    if table.is_shut(sign) or len(row) != 2:
        return False
    first, second = row
    if not is_formed_by_its_row(table, first) or table.rank(first) > 0 or table.row(second) is not None:
        return False
    return table.rank(second) == 0 or table.rank(second) >= table.rank(full(table, first)[-1])


def expected_lost(table):
    """[27], word by word."""
    pairs = [sign for sign, row in table.rows() if len(row) == 2]
    signs = [sign for sign in pairs if not table.is_shut(sign) and not is_formed_by_its_row(table, sign)]
    return [(sign, together(table, [sign])) for sign in sorted(signs)]


def is_idle(table, sign):
    """[27], word by word."""
    twins = [other for other, row in table.rows() if row == table.row(sign) and not table.is_shut(other)]
    if twins:
        return False
    shuts = [other for other in table.shuts() if other != sign]
    return not is_formed_by_its_row(Table(table.marks(), table.rows(), shuts), sign)


def expected_least(table):
    """[28], word by word: marks, rows, shut signs."""
    shuts = table.shuts()
    for sign in table.shuts():
        if is_idle(Table(table.marks(), table.rows(), shuts), sign):
            shuts.remove(sign)
    ranks = {rank for sign, rank in table.marks()}
    marks = [(sign, len({other for other in ranks if other <= rank})) for sign, rank in table.marks()]
    return marks, table.rows(), shuts


def lists_of(table):
    return table.marks(), table.rows(), table.shuts()


class Lost(unittest.TestCase):
    """[27]: lost rows."""

    def told(self, table, expected):
        before = lists_of(table)
        found = lost(table)
        self.assertEqual(found, expected)
        self.assertIs(type(found), list)
        for each in found:
            self.assertEqual((type(each), type(each[0]), type(each[1])), (tuple, int, list))
        self.assertEqual(lists_of(table), before)

    def test_none(self):
        self.told(Table([], [], []), [])
        self.told(with_rows([]), [])
        self.told(with_rows([(20, (1, 10)), (21, (20, 12)), (22, (1, 3)), (23, (22, 1))]), [])

    def test_the_first_sign_is_shut(self):
        self.told(with_rows([(20, (1, 10)), (21, (20, 12))], [20]), [(21, [1, 10, 12])])
        self.told(with_rows([(20, (1, 10)), (21, (20, 2))], [20]), [(21, [1, 10, 2])])

    def test_the_first_sign_is_shut_and_has_a_twin(self):
        self.told(with_rows([(19, (1, 10)), (20, (1, 10)), (21, (20, 12))], [20]), [(21, [19, 12])])
        rows = [(19, (1, 10)), (20, (1, 10)), (21, (20, 12)), (22, (19, 12))]
        self.told(with_rows(rows, [20]), [(21, [22])])

    def test_the_first_sign_has_a_row_of_one(self):
        self.told(with_rows([(20, (1,)), (21, (20, 10))]), [(21, [1, 10])])
        self.told(with_rows([(20, (1,)), (21, (20, 10)), (22, (1, 10))]), [(21, [22])])

    def test_the_first_sign_is_lost(self):
        rows = [(20, (10, 1)), (21, (20, 10)), (22, (21, 12))]
        self.told(with_rows(rows), [(20, [10, 1]), (21, [10, 1, 10]), (22, [10, 1, 10, 12])])

    def test_the_first_sign_is_a_mark(self):
        self.told(with_rows([(20, (10, 1))]), [(20, [10, 1])])
        self.told(with_rows([(20, (10, 12))]), [(20, [10, 12])])
        self.told(with_rows([(20, (12, 10))]), [(20, [10, 12])])
        self.told(with_rows([(20, (10, 11))]), [(20, [10, 11])])

    def test_the_second_sign_has_a_row(self):
        self.told(with_rows([(20, (1, 10)), (21, (2, 20))]), [(21, [2, 20])])
        self.told(with_rows([(20, (10,)), (21, (1, 20))]), [(21, [1, 10])])
        self.told(with_rows([(20, (10,)), (21, (1, 20)), (22, (1, 10))]), [(21, [22])])
        self.told(with_rows([(20, (10, 12)), (21, (1, 20)), (22, (1, 12))]), [(20, [10, 12]), (21, [22, 10])])

    def test_the_second_sign_is_a_mark_of_lesser_rank(self):
        self.told(with_rows([(20, (1, 12)), (21, (20, 10))]), [(21, [20, 10])])
        self.told(with_rows([(20, (1, 12)), (21, (20, 10)), (22, (1, 10))]), [(21, [22, 12])])
        self.told(with_rows([(20, (1, 12)), (21, (20, 10)), (22, (1, 10)), (23, (22, 12))]), [(21, [23])])
        self.told(with_rows([(20, (1, 10)), (21, (20, 12)), (22, (21, 11))]), [(22, [21, 11])])

    def test_a_mark_of_the_same_rank_is_not_lost(self):
        self.told(with_rows([(20, (1, 10)), (21, (20, 11)), (22, (21, 10)), (23, (22, 12))]), [])

    def test_any_mark_behind_a_ground_sign_is_not_lost(self):
        self.told(with_rows([(20, (1, 12)), (21, (20, 2)), (22, (21, 10))]), [])

    def test_shut_signs_and_rows_of_one_are_not_lost(self):
        self.told(with_rows([(20, (10, 1)), (21, (1, 2)), (22, (1,)), (23, (10,)), (24, (22,))], [20, 21]), [])

    def test_sorted(self):
        rows = [(BIG, (10, 1)), (7, (10, 2)), (100, (11, 1)), (0, (11, 2)), (21, (12, 1)), (9, (1, 2))]
        told = [(0, [11, 2]), (7, [10, 2]), (21, [12, 1]), (100, [11, 1]), (BIG, [10, 1])]
        for order in itertools.islice(itertools.permutations(rows), 0, None, 7):
            self.told(with_rows(order), told)

    def test_sixty_rows(self):
        rows = [(100 + k, (10 + k % 3, 30 + k // 3)) for k in range(60)]
        self.told(Table(MARKS, rows, []), [(100 + k, [10 + k % 3, 30 + k // 3]) for k in range(60)])

    def test_small_tables(self):
        for table in itertools.chain(small_tables(), deep_tables()):
            self.assertEqual(lost(table), expected_lost(table))


class Idle(unittest.TestCase):
    """[27]: idle shut signs."""

    def told(self, table, expected):
        before = lists_of(table)
        found = idle(table)
        self.assertEqual(found, expected)
        self.assertIs(type(found), list)
        self.assertEqual(lists_of(table), before)

    def test_none(self):
        self.told(Table([], [], []), [])
        self.told(with_rows([(20, (10, 1)), (21, (1, 2)), (22, (1,))]), [])

    def test_not_idle(self):
        self.told(with_rows([(20, (1, 10))], [20]), [])
        self.told(with_rows([(20, (1, 10)), (21, (20, 12)), (22, (20, 2))], [21, 22]), [])

    def test_idle_each_way(self):
        self.told(with_rows([(20, (10, 1))], [20]), [20])
        self.told(with_rows([(20, (10, 12))], [20]), [20])
        self.told(with_rows([(20, (1,)), (21, (20, 10))], [21]), [21])
        self.told(with_rows([(20, (1, 10)), (21, (2, 20))], [21]), [21])
        self.told(with_rows([(20, (1, 12)), (21, (20, 10))], [21]), [21])
        self.told(with_rows([(20, (10, 1)), (21, (20, 12))], [21]), [21])

    def test_a_mark_of_the_same_rank_is_not_idle(self):
        self.told(with_rows([(20, (1, 10)), (21, (20, 11))], [21]), [])

    def test_idle_behind_another_that_is_shut(self):
        self.told(with_rows([(20, (1, 10)), (21, (20, 12))], [20, 21]), [21])
        self.told(with_rows([(20, (21, 12)), (21, (1, 10))], [20, 21]), [20])

    def test_a_row_that_another_sign_has_that_is_not_shut(self):
        self.told(with_rows([(20, (1, 10)), (21, (1, 10))], [20]), [])
        self.told(with_rows([(20, (10, 1)), (21, (10, 1))], [20]), [])
        self.told(with_rows([(20, (10, 1)), (21, (10, 1))], [21]), [])
        self.told(with_rows([(20, (10, 1)), (21, (10, 1)), (22, (10, 1))], [20, 22]), [])

    def test_a_row_that_another_shut_sign_has(self):
        self.told(with_rows([(20, (10, 1)), (21, (10, 1))], [20, 21]), [20, 21])
        self.told(with_rows([(20, (1, 10)), (21, (1, 10))], [20, 21]), [])

    def test_sorted(self):
        rows = [(BIG, (10, 1)), (7, (10, 2)), (100, (11, 1)), (0, (11, 2)), (21, (1, 2)), (9, (12, 2))]
        for order in itertools.permutations((BIG, 7, 100, 0, 21)):
            self.told(with_rows(rows, order), [0, 7, 100, BIG])

    def test_small_tables(self):
        for table in itertools.chain(small_tables(), deep_tables()):
            self.assertEqual(idle(table), [sign for sign in table.shuts() if is_idle(table, sign)])


class Least(unittest.TestCase):
    """[28]"""

    def told(self, table, writing):
        before = lists_of(table)
        found = least(table)
        self.assertIs(type(found), Table)
        self.assertIsNot(found, table)
        self.assertEqual(shown(found), writing)
        self.assertEqual(lists_of(table), before)
        self.check(table, found)

    def check(self, table, found):
        self.assertEqual(lists_of(found), expected_least(table))
        self.assertEqual(found.rows(), table.rows())
        self.assertEqual(idle(found), [])
        self.assertEqual(lists_of(least(found)), lists_of(found))

    def test_the_table_that_says_nothing(self):
        self.told(Table([], [], []), "")

    def test_ranks_with_gaps(self):
        self.told(read("mark 10 5\nmark 11 900\nmark 12 7\n"), "mark 10 1\nmark 11 3\nmark 12 2\n")
        self.told(read("mark 5 999\n"), "mark 5 1\n")
        self.told(read("mark 5 2\nmark 6 1\n"), "mark 5 2\nmark 6 1\n")

    def test_marks_of_one_rank(self):
        writing = "mark 10 8\nmark 11 3\nmark 12 8\nmark 13 3\nmark 14 9\n"
        self.told(read(writing), "mark 10 2\nmark 11 1\nmark 12 2\nmark 13 1\nmark 14 3\n")
        self.told(read("mark 10 8\nmark 11 8\n"), "mark 10 1\nmark 11 1\n")

    def test_ranks_by_number_and_not_by_figures(self):
        self.told(read("mark 1 100\nmark 2 20\nmark 3 3\n"), "mark 1 3\nmark 2 2\nmark 3 1\n")

    def test_sixty_marks(self):
        marks = [(sign, 999 - 10 * (sign // 2)) for sign in range(60)]
        self.assertEqual(least(Table(marks, [], [])).marks(), [(sign, 30 - sign // 2) for sign in range(60)])

    def test_idle_signs_are_shut_no_longer(self):
        self.told(read("mark 10 1\n20 is 10 1\n21 is 1 10\nshut 20\nshut 21\n"), "mark 10 1\n20 is 10 1\n21 is 1 10\nshut 21\n")
        self.told(read("20 is 1 2\nshut 20\n"), "20 is 1 2\nshut 20\n")

    def test_idle_only_as_long_as_another_one_is_shut(self):
        """Two with one row: the least one is shut no longer, and then the others are not idle."""
        table = read("mark 10 1\n20 is 10 1\n21 is 10 1\n22 is 10 1\nshut 20\nshut 21\nshut 22\n")
        self.assertEqual(idle(table), [20, 21, 22])
        self.told(table, "mark 10 1\n20 is 10 1\n21 is 10 1\n22 is 10 1\nshut 21\nshut 22\n")

    def test_the_least_one_first_in_whatever_order_they_came(self):
        rows = [(20, (10, 1)), (3, (10, 1)), (BIG, (10, 1))]
        for order in itertools.permutations((20, 3, BIG)):
            self.assertEqual(least(Table([(10, 1)], rows, list(order))).shuts(), [20, BIG])

    def test_idle_behind_another_that_is_shut(self):
        self.told(read("20 is 1 2\n21 is 20 3\nshut 20\nshut 21\n"), "20 is 1 2\n21 is 20 3\nshut 20\n")
        self.told(read("20 is 21 3\n21 is 1 2\nshut 20\nshut 21\n"), "20 is 21 3\n21 is 1 2\nshut 21\n")

    def test_lost_rows_stay(self):
        self.told(read("mark 10 7\n20 is 10 1\n21 is 5\n"), "mark 10 1\n20 is 10 1\n21 is 5\n")

    def test_a_table_that_is_its_own_least_one(self):
        table = read("mark 10 1\n20 is 1 10\n21 is 1 2\nshut 21\n")
        self.told(table, shown(table))

    def test_small_tables(self):
        for table in itertools.chain(list(small_tables())[::5], deep_tables()):
            self.check(table, least(table))

    def test_both_forms_are_as_before(self):
        tables = list(small_tables())[::29] + list(deep_tables())[::5]
        for table in tables:
            found = least(table)
            signs = (1, 2, 3, 4, 5, 6, 7)
            for text in itertools.chain(*[itertools.product(signs, repeat=length) for length in range(4)]):
                self.assertEqual(apart(found, list(text)), apart(table, list(text)))
                self.assertEqual(together(found, list(text)), together(table, list(text)))

    def test_the_forms_of_signs_with_deep_rows_are_as_before(self):
        for table in deep_tables():
            found = least(table)
            for text in itertools.product((8, 9, 20, 21), (3, 2, 21)):
                self.assertEqual(together(found, list(text)), together(table, list(text)))
            for sign in (6, 7, 8, 9, 20, 21):
                self.assertIs(formed(found, sign), formed(table, sign))

    def test_without_any_idle_sign_all_forms_are_as_before(self):
        """[3]: each of them by itself, too."""
        for table in list(deep_tables())[::3]:
            for sign in idle(table):
                found = Table(table.marks(), table.rows(), [other for other in table.shuts() if other != sign])
                for text in itertools.product((1, 3, 4, 6, 8, sign), repeat=2):
                    self.assertEqual(together(found, list(text)), together(table, list(text)))

    def test_shut_signs_that_are_not_idle_are_not_shut_for_nothing(self):
        """Without such a one it is formed, or the table is refused."""
        for table in deep_tables():
            found = least(table)
            for sign in found.shuts():
                try:
                    tried = Table(found.marks(), found.rows(), [other for other in found.shuts() if other != sign])
                except Same:
                    continue
                self.assertTrue(formed(tried, sign))


class Asked(unittest.TestCase):
    """[2]"""

    WRITING = "mark 10 4\nmark 11 9\n20 is 10 1\n21 is 11 10\n22 is 1 10\n23 is 11 1\nshut 22\nshut 23\n"

    def test_told_lists_emptied_or_lengthened(self):
        table = read(self.WRITING)
        for change in (list.clear, list.reverse, lambda told: told.extend([5, 6])):
            found = lost(table)
            for sign, form in found:
                change(form)
            change(found)
            change(idle(table))
            made = least(table)
            for each in (made.marks(), made.rows(), made.shuts()):
                change(each)
            self.assertEqual(lost(table), [(20, [10, 1]), (21, [10, 11])])
            self.assertEqual(idle(table), [23])
            self.assertEqual(shown(table), self.WRITING)
            self.assertEqual(lists_of(made), ([(10, 1), (11, 2)], table.rows(), [22]))
            self.assertEqual(lists_of(least(table)), lists_of(made))

    def test_lists_handed_in_and_changed_afterwards(self):
        marks, rows, shuts = [(10, 4)], [(20, (10, 1)), (21, (1, 10))], [21]
        table = Table(marks, rows, shuts)
        made = least(table)
        marks.append((1, 5))
        rows.clear()
        shuts.append(20)
        self.assertEqual((lost(table), idle(table)), ([(20, [10, 1])], []))
        self.assertEqual(lists_of(made), ([(10, 1)], [(20, (10, 1)), (21, (1, 10))], [21]))

    def test_two_tables_in_turn(self):
        one = read(self.WRITING)
        other = read("mark 1 4\n20 is 10 1\n21 is 1 10\n23 is 20 10\nshut 23\n")
        for time in range(3):
            self.assertEqual((lost(one), lost(other)), ([(20, [10, 1]), (21, [10, 11])], [(21, [1, 10])]))
            self.assertEqual((idle(one), idle(other)), ([23], []))
            self.assertEqual((least(one).shuts(), least(other).shuts()), ([22], [23]))
            self.assertEqual((least(one).marks(), least(other).marks()), ([(10, 1), (11, 2)], [(1, 1)]))


if __name__ == "__main__":
    unittest.main()
