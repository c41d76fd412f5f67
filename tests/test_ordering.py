"""The order of marks: where a text falls, the text put in order, the exchanges that lead there, the apart form."""

import itertools
import unittest

from signforms.opening import opened
from signforms.ordering import apart, exchanges, falls, ordered
from signforms.tables import Table

BIG = 10 ** 60 - 1

# Ground signs 1, 2; marks of ranks 1 (10, 11), 3 (12, 13), 999 (14); signs with rows 20, 21 (shut), 22, 30, 31.
RANKS = {10: 1, 11: 1, 12: 3, 13: 3, 14: 999}
ROWS = [(20, (1, 12)), (21, (20, 10)), (22, (14, 12)), (30, (10,)), (31, (21,))]
SHUTS = [21]
SIGNS = [1, 10, 11, 12, 13, 14, 20, 22, 30]


def sample():
    return Table(list(RANKS.items()), list(ROWS), list(SHUTS))


def texts(longest):
    for length in range(longest + 1):
        for text in itertools.product(SIGNS, repeat=length):
            yield list(text)


def falling_places(text):
    """[11], word by word."""
    places = []
    for k in range(len(text) - 1):
        here, behind = RANKS.get(text[k], 0), RANKS.get(text[k + 1], 0)
        if here > 0 and behind > 0 and here > behind:
            places.append(k)
    return places


def put_in_order(text):
    """[11], word by word: each longest row of neighbours by itself."""
    told = []
    for is_marks, row in itertools.groupby(text, key=lambda sign: RANKS.get(sign, 0) > 0):
        row = list(row)
        if is_marks:
            ranks = sorted({RANKS[sign] for sign in row})
            row = [sign for rank in ranks for sign in row if RANKS[sign] == rank]
        told += row
    return told


def pairs_out_of_order(text, rank):
    """[12]: pairs of marks, with nothing but marks between, of which the one ahead has the greater rank."""
    found = 0
    for ahead, behind in itertools.combinations(range(len(text)), 2):
        if all(rank(sign) > 0 for sign in text[ahead:behind + 1]) and rank(text[ahead]) > rank(text[behind]):
            found += 1
    return found


class Falls(unittest.TestCase):
    """[11]"""

    def test_ordinary_texts(self):
        table = sample()
        self.assertEqual(falls(table, [1, 12, 10]), [1])
        self.assertEqual(falls(table, [14, 12, 10]), [0, 1])
        self.assertEqual(falls(table, [14, 10, 12, 10, 1, 12, 11]), [0, 2, 5])

    def test_texts_that_fall_nowhere(self):
        table = sample()
        for text in ([], [1], [14], [10, 12, 14], [10, 11, 10], [12, 13, 13], [1, 2, 1], [12, 1, 10], [1, 14, 1]):
            told = falls(table, text)
            self.assertIs(type(told), list)
            self.assertEqual(told, [], text)

    def test_signs_of_rank_nought_part_the_marks(self):
        table = sample()
        for sign in (1, 77, 20, 21, 22, 30, 31):
            self.assertEqual(falls(table, [14, sign, 10]), [], sign)
            self.assertEqual(falls(table, [14, 10, sign, 12, 10]), [0, 3], sign)

    def test_all_small_texts(self):
        table = sample()
        for text in texts(4):
            self.assertEqual(falls(table, text), falling_places(text), text)

    def test_the_table_that_says_nothing(self):
        self.assertEqual(falls(Table([], [], []), [3, 2, 1]), [])


class Ordered(unittest.TestCase):
    """[11]"""

    def test_ordinary_texts(self):
        table = sample()
        self.assertEqual(ordered(table, [1, 12, 10]), [1, 10, 12])
        self.assertEqual(ordered(table, [14, 12, 10, 1, 12, 10]), [10, 12, 14, 1, 10, 12])
        self.assertEqual(ordered(table, [14, 12, 11]), [11, 12, 14])

    def test_what_falls_nowhere_stays(self):
        table = sample()
        for text in ([], [1], [14], [10, 12, 14], [11, 10, 11], [13, 12], [2, 1], [12, 1, 10], [31, 20, 1, 14]):
            told = ordered(table, text)
            self.assertIs(type(told), list)
            self.assertEqual(told, text)

    def test_like_ranks_keep_their_turn(self):
        table = sample()
        self.assertEqual(ordered(table, [13, 11, 12, 10]), [11, 10, 13, 12])
        self.assertEqual(ordered(table, [12, 10, 13, 11, 12]), [10, 11, 12, 13, 12])
        self.assertEqual(ordered(table, [11, 10]), [11, 10])
        self.assertEqual(ordered(table, [10, 11]), [10, 11])

    def test_the_rank_counts_and_not_the_sign(self):
        table = Table([(5, 9), (6, 2), (0, 5)], [], [])
        self.assertEqual(ordered(table, [5, 6, 0]), [6, 0, 5])

    def test_signs_of_rank_nought_stay_where_they_are(self):
        table = sample()
        for sign in (1, 77, 20, 21, 22, 30, 31):
            self.assertEqual(ordered(table, [14, sign, 10]), [14, sign, 10], sign)
            self.assertEqual(ordered(table, [14, 10, sign, 12, 10, sign]), [10, 14, sign, 10, 12, sign], sign)
            self.assertEqual(ordered(table, [sign, sign, 12, 10]), [sign, sign, 10, 12], sign)

    def test_all_small_texts(self):
        table = sample()
        for text in texts(4):
            told = ordered(table, text)
            self.assertEqual(told, put_in_order(text), text)
            self.assertEqual(falls(table, told), [])
            self.assertEqual(ordered(table, told), told)
            if not falls(table, text):
                self.assertEqual(told, text)

    def test_the_ends_of_the_ranks(self):
        table = Table([(5, 999), (6, 1), (7, 998), (8, 2)], [], [])
        self.assertEqual(ordered(table, [5, 7, 8, 6]), [6, 8, 7, 5])

    def test_long_rows_of_marks(self):
        table = Table([(k, 1 + k % 60) for k in range(60)], [], [])
        self.assertEqual(ordered(table, list(range(59, -1, -1)) * 30), [k for k in range(60) for time in range(30)])
        text = [(k * 37) % 60 for k in range(1999)]
        self.assertEqual(ordered(table, text), sorted(text))
        parted = text[:900] + [BIG] + text[900:]
        self.assertEqual(ordered(table, parted), sorted(text[:900]) + [BIG] + sorted(text[900:]))


class Exchanges(unittest.TestCase):
    """[12]"""

    def follow(self, table, text):
        told = exchanges(table, text)
        self.assertIs(type(told), list)
        current = list(text)
        for k in told:
            self.assertIs(type(k), int)
            self.assertTrue(0 <= k < len(current) - 1)
            # To fall at a place means that there are marks of unlike ranks, so that this is an exchange, too.
            self.assertGreater(table.rank(current[k + 1]), 0)
            self.assertGreater(table.rank(current[k]), table.rank(current[k + 1]))
            current[k], current[k + 1] = current[k + 1], current[k]
        self.assertEqual(current, ordered(table, text))
        return told

    def test_none_for_a_text_in_order(self):
        table = sample()
        for text in ([], [1], [14], [10, 12, 14], [11, 10, 11], [12, 1, 10], [14, 20, 10], [14, 30, 10]):
            self.assertEqual(self.follow(table, text), [])

    def test_one(self):
        table = sample()
        self.assertEqual(self.follow(table, [12, 10]), [0])
        self.assertEqual(self.follow(table, [1, 12, 10]), [1])
        self.assertEqual(self.follow(table, [1, 2, 10, 14, 13, 1]), [3])

    def test_three_marks(self):
        told = self.follow(sample(), [14, 12, 10])
        self.assertIn(told, ([0, 1, 0], [1, 0, 1]))

    def test_like_ranks_are_not_exchanged(self):
        table = sample()
        self.assertEqual(self.follow(table, [13, 12, 10]), [1, 0])
        self.assertEqual(len(self.follow(table, [13, 12, 11, 10])), 4)

    def test_signs_with_rows_are_not_opened(self):
        table = sample()
        self.assertEqual(self.follow(table, [22, 10]), [])
        self.assertEqual(self.follow(table, [14, 30, 12, 10]), [2])

    def test_all_small_texts(self):
        table = sample()
        for text in texts(4):
            self.assertEqual(len(self.follow(table, text)), pairs_out_of_order(text, table.rank), text)

    def test_all_turns_of_five_marks(self):
        table = sample()
        for text in itertools.permutations((10, 11, 12, 13, 14)):
            told = self.follow(table, list(text))
            self.assertEqual(len(told), pairs_out_of_order(text, table.rank))

    def test_two_hundred_marks(self):
        table = Table([(k, k + 1) for k in range(200)], [], [])
        self.assertEqual(len(self.follow(table, list(range(199, -1, -1)))), 199 * 200 // 2)
        self.assertEqual(self.follow(table, list(range(200))), [])

    def test_two_hundred_marks_among_two_thousand_signs(self):
        table = Table([(5, 2), (6, 1)], [], [])
        text = [5] * 50 + [9] * 900 + [5] * 50 + [6] * 50 + [9] * 900 + [6] * 50
        self.assertEqual(len(self.follow(table, text)), 2500)


class Apart(unittest.TestCase):
    """[13]"""

    def test_ordinary_texts(self):
        table = sample()
        self.assertEqual(apart(table, [20]), [1, 12])
        self.assertEqual(apart(table, [21]), [1, 10, 12])
        self.assertEqual(apart(table, [22]), [12, 14])
        self.assertEqual(apart(table, [31, 11]), [1, 10, 11, 12])
        self.assertEqual(apart(table, [20, 11, 2, 14, 30, 20]), [1, 11, 12, 2, 10, 14, 1, 12])

    def test_opened_ahead_of_being_put_in_order(self):
        # As long as they are closed, 22 and 30 part the marks.
        table = sample()
        self.assertEqual(apart(table, [14, 30, 12, 22, 10]), [10, 10, 12, 12, 14, 14])

    def test_the_text_of_no_signs(self):
        told = apart(sample(), [])
        self.assertEqual(told, [])
        self.assertIs(type(told), list)

    def test_bare_signs_in_order_stay(self):
        table = sample()
        for text in ([1], [14], [1, 10, 12, 14, 1, 10], [77, BIG, 0]):
            self.assertEqual(apart(table, text), text)

    def test_all_small_texts(self):
        table = sample()
        for text in texts(3):
            told = apart(table, text)
            self.assertEqual(told, put_in_order(opened(table, text)), text)
            self.assertEqual(apart(table, told), told)

    def test_two_thousand_signs(self):
        rows = [(102, (8, 7)), (103, (102, 102)), (104, (103, 103)), (105, (104, 104))]
        table = Table([(7, 1), (8, 2)], rows, [])
        self.assertEqual(apart(table, [105] * 2000), [7] * 16000 + [8] * 16000)


if __name__ == "__main__":
    unittest.main()
