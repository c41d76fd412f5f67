"""The writing of a table, read and shown."""

import itertools
import unittest

from signforms.errors import FormError, NoPair, NoRow, Ring, Same, TooLong, Twice
from signforms.reading import read, shown
from signforms.tables import Table

BIG = 10 ** 60 - 1

SAMPLE = "mark 10 5\nmark 11 1\nmark 12 999\n20 is 1 10\n21 is 20 11\n22 is 1 10\n30 is 1\nshut 22\n"


def lists_of(table):
    return table.marks(), table.rows(), table.shuts()


SAMPLE_LISTS = (
    [(10, 5), (11, 1), (12, 999)],
    [(20, (1, 10)), (21, (20, 11)), (22, (1, 10)), (30, (1,))],
    [22],
)


class Read(unittest.TestCase):
    """[8]"""

    def test_an_ordinary_writing(self):
        table = read(SAMPLE)
        self.assertIs(type(table), Table)
        self.assertEqual(lists_of(table), SAMPLE_LISTS)
        self.assertEqual(table.rank(12), 999)
        self.assertEqual(table.pair(1, 10), 20)
        self.assertIs(table.is_shut(22), True)

    def test_the_writing_without_signs(self):
        self.assertEqual(lists_of(read("")), ([], [], []))

    def test_the_last_line_feed_may_be_left_out(self):
        self.assertEqual(lists_of(read(SAMPLE[:-1])), SAMPLE_LISTS)
        for row in ("mark 1 2", "1 is 2", "1 is 2 3"):
            self.assertEqual(lists_of(read(row)), lists_of(read(row + "\n")))

    def test_rows_in_any_order(self):
        rows = ["mark 10 5\n", "shut 22\n", "20 is 1 10\n", "22 is 1 10\n", "30 is 1\n"]
        for some in itertools.permutations(rows):
            expected = ([(10, 5)], [(20, (1, 10)), (22, (1, 10)), (30, (1,))], [22])
            self.assertEqual(lists_of(read("".join(some))), expected)
            self.assertEqual(lists_of(read("".join(some)[:-1])), expected)

    def test_edges_of_signs_and_ranks(self):
        self.assertEqual(lists_of(read("mark 0 1\nmark 1 999\n")), ([(0, 1), (1, 999)], [], []))
        writing = f"mark {BIG} 100\n{BIG - 1} is 0\n{BIG - 2} is {BIG - 3} {BIG}\nshut {BIG - 2}\n"
        expected = ([(BIG, 100)], [(BIG - 2, (BIG - 3, BIG)), (BIG - 1, (0,))], [BIG - 2])
        self.assertEqual(lists_of(read(writing)), expected)

    def test_sixty_rows_of_each_sort(self):
        marks = [(100 + k, 900 + k) for k in range(60)]
        rows = [(200 + k, (1, 100 + k)) for k in range(60)]
        writing = "".join(
            [f"mark {sign} {rank}\n" for sign, rank in marks]
            + [f"{sign} is {row[0]} {row[1]}\n" for sign, row in rows]
            + [f"shut {sign}\n" for sign, row in rows]
        )
        self.assertEqual(lists_of(read(writing)), (marks, rows, [sign for sign, row in rows]))
        self.assertEqual(shown(read(writing)), writing)

    def test_two_readings_share_nothing(self):
        one = read(SAMPLE)
        for told in lists_of(one):
            told.clear()
        self.assertEqual(lists_of(one), SAMPLE_LISTS)
        self.assertEqual(lists_of(read(SAMPLE)), SAMPLE_LISTS)


NO_ROWS = [
    # an empty row, and rows of blanks and tabs alone
    "", " ", "  ", "\t",
    # other first words
    "marks 1 2", "Mark 1 2", "MARK 1 2", "make 1 2", "shuts 1", "Shut 1", "is 1 2", "row 1 2", "a is 1", "- is 1",
    "mark", "shut", "is", "1", "mark mark 1", "shut shut", "is is is",
    # a word more or less
    "mark 1", "mark 1 2 3", "1 is", "1 is 2 3 4", "shut 1 2", "1 2", "1 2 3", "1 2 3 4", "1 is is 2", "1 IS 2", "1 = 2",
    "1 it 2", "1 iss 2", "1 i 2 3", "1 zz 2 3", "mar 1 2", "zark 1 2", "shu 1", "zhut 1",
    # two blanks, and blanks ahead or behind
    "mark  1 2", "mark 1  2", "1  is 2", "1 is  2", "1 is 2  3", "shut  1",
    " mark 1 2", " 1 is 2", " shut 1", "mark 1 2 ", "1 is 2 ", "1 is 2 3 ", "shut 1 ",
    # tabs
    "mark\t1 2", "mark 1\t2", "1\tis 2", "1 is\t2", "1 is 2\t3", "shut\t1", "\tshut 1", "shut 1\t", "mark 1 2\t",
    # a 0 ahead of another figure
    "mark 01 2", "mark 1 02", "mark 00 2", "01 is 2", "1 is 02", "1 is 2 03", "1 is 00", "00 is 1", "shut 01", "shut 00",
    # no figures, or not figures alone
    "mark x 2", "mark 1 x", "x is 2", "1 is x", "1 is 2 x", "shut x", "shut -1", "shut +1", "shut 1_0", "shut 1.0",
    "shut 0x1", "shut 1e1", "1 is -2", "1 is +2", "mark 1 +2", "mark 1 -2", "mark 1 1_0", "mark 1 2.0", "1 is 2,3",
    # ranks of 0 and above 999
    "mark 1 0", "mark 1 1000", "mark 1 9999", "mark 1 000", f"mark 1 {BIG}", f"mark 1 1{BIG}", "mark 1 " + "9" * 9000,
    # sixty-one figures and many more
    f"mark {BIG + 1} 2", f"{BIG + 1} is 2", f"1 is {BIG + 1}", f"1 is {BIG + 1} 3", f"1 is 2 {BIG + 1}",
    f"shut {BIG + 1}", "shut " + "1" * 9000, "1 is " + "0" * 61, "9" * 5000 + " is 1",
    # two rows without a line feed between
    "mark 1 2 mark 3 4", "1 is 2;3 is 4", "mark 1 2;",
    # remarks
    "# mark 1 2", "shut 1 # why",
]


class NoRowRefused(unittest.TestCase):
    """[8]"""

    def refused_at(self, writing):
        with self.assertRaises(FormError) as caught:
            read(writing)
        self.assertIs(type(caught.exception), NoRow, writing)
        return caught.exception.at

    def test_each_way_in_which_a_row_is_none(self):
        for row in NO_ROWS:
            with self.subTest(row[:80]):
                self.assertEqual(self.refused_at(row + "\n"), 1)
                self.assertEqual(self.refused_at(SAMPLE + row + "\n"), 9)
                self.assertEqual(self.refused_at("mark 10 5\n" + row + "\n20 is 1 10\n"), 2)
                if row:
                    self.assertEqual(self.refused_at(row), 1)
                    self.assertEqual(self.refused_at("mark 10 5\n" + row), 2)

    def test_empty_rows(self):
        self.assertEqual(self.refused_at("\n"), 1)
        self.assertEqual(self.refused_at("\n\n"), 1)
        self.assertEqual(self.refused_at("\nmark 1 2\n"), 1)
        self.assertEqual(self.refused_at("mark 1 2\n\n"), 2)
        self.assertEqual(self.refused_at("mark 1 2\n\nmark 2 2"), 2)
        self.assertEqual(self.refused_at("mark 1 2\nmark 2 2\n\n\n"), 3)

    def test_the_first_of_several(self):
        self.assertEqual(self.refused_at("mark 1 2\nshut x\n3 is 4\nmark 1\n"), 2)
        rows = ["mark 1 2"] * 12
        for k in range(12):
            some = rows[:k] + ["mark 1 0"] + rows[k + 1:] + ["shut"]
            self.assertEqual(self.refused_at("\n".join(some)), k + 1)

    def test_ahead_of_the_refusals_of_tables(self):
        for wrong in ("mark 1 2\nmark 1 3\n", "shut 1\n", "5 is 1 2\n6 is 1 2\n", "5 is 5\n", "shut 7\nshut 7\n"):
            with self.subTest(wrong):
                self.assertEqual(self.refused_at(wrong + "mark 1 0\n"), wrong.count("\n") + 1)
                self.assertEqual(self.refused_at("mark 1 0\n" + wrong), 1)


class RefusedAsTables(unittest.TestCase):
    """[8], [6]"""

    def refused(self, kind, writing):
        with self.assertRaises(FormError) as caught:
            read(writing)
        self.assertIs(type(caught.exception), kind)
        return caught.exception

    def test_twice(self):
        for writing in ("mark 5 1\nmark 5 1\n", "5 is 1\n5 is 2 3\n", "5 is 1\nmark 5 1\n", "shut 5\nshut 5\n"):
            self.assertEqual(self.refused(Twice, writing).sign, 5)
        self.assertEqual(self.refused(Twice, "shut 9\nmark 8 1\nshut 9\n8 is 1\n").sign, 8)

    def test_no_pair(self):
        self.assertEqual(self.refused(NoPair, "shut 6\nshut 5\n6 is 1 2\n").sign, 5)
        self.assertEqual(self.refused(NoPair, "shut 5\n5 is 1\n").sign, 5)

    def test_same(self):
        told = self.refused(Same, "7 is 1 2\n5 is 1 2\n6 is 1 2\nshut 6\n")
        self.assertEqual((told.one, told.other), (5, 7))

    def test_ring(self):
        self.assertEqual(self.refused(Ring, "5 is 5\n").signs, [5])
        self.assertEqual(sorted(self.refused(Ring, "5 is 1 6\n6 is 5\n").signs), [5, 6])

    def test_too_long(self):
        writing = "1 is 0 0\n2 is 1 1\n3 is 2 2\n4 is 3 3\n"
        self.assertEqual(len(read(writing).rows()), 4)
        self.assertEqual(self.refused(TooLong, writing + "5 is 4 0\n").sign, 5)


class Shown(unittest.TestCase):
    """[8]"""

    def test_the_table_that_says_nothing(self):
        self.assertEqual(shown(Table([], [], [])), "")

    def test_sorted_by_sort_and_sign(self):
        table = Table(
            [(12, 999), (10, 5), (11, 1)],
            [(100, (1, 11)), (30, (1,)), (22, (1, 10)), (21, (20, 11)), (20, (1, 10))],
            [100, 22],
        )
        expected = "mark 10 5\nmark 11 1\nmark 12 999\n20 is 1 10\n21 is 20 11\n22 is 1 10\n30 is 1\n100 is 1 11\n"
        self.assertEqual(shown(table), expected + "shut 22\nshut 100\n")

    def test_each_sort_alone(self):
        self.assertEqual(shown(Table([(2, 1)], [], [])), "mark 2 1\n")
        self.assertEqual(shown(Table([], [(2, (1,))], [])), "2 is 1\n")
        self.assertEqual(shown(Table([], [(2, (1, 0))], [2])), "2 is 1 0\nshut 2\n")

    def test_read_and_shown(self):
        self.assertEqual(shown(read(SAMPLE)), SAMPLE)
        self.assertEqual(shown(read("".join(SAMPLE.splitlines(keepends=True)[::-1]))), SAMPLE)

    def test_a_table_shown_and_read_tells_the_same(self):
        tables = [
            Table([], [], []),
            Table([(0, 1), (BIG, 999)], [(BIG - 1, (0, BIG)), (BIG - 2, (0, BIG)), (7, (BIG - 1,))], [BIG - 2]),
            Table([(100 + k, 999 - k) for k in range(60)], [(k + 1, (k,)) for k in range(60)], []),
            Table([], [(200 + k, (1, 1)) for k in range(60)], [200 + k for k in range(1, 60)]),
        ]
        for table in tables:
            again = read(shown(table))
            self.assertEqual(lists_of(again), lists_of(table))
            signs = list(range(70)) + list(range(100, 160)) + list(range(200, 260)) + [BIG, BIG - 1, BIG - 2]
            for sign in signs:
                self.assertEqual(again.rank(sign), table.rank(sign))
                self.assertEqual(again.row(sign), table.row(sign))
                self.assertEqual(again.is_shut(sign), table.is_shut(sign))
                self.assertEqual(again.pair(1, sign), table.pair(1, sign))
                self.assertEqual(again.pair(0, sign), table.pair(0, sign))

    def test_showing_changes_nothing(self):
        table = read(SAMPLE)
        self.assertEqual(shown(table), shown(table))
        self.assertEqual(lists_of(table), SAMPLE_LISTS)


if __name__ == "__main__":
    unittest.main()
