"""Opening: full rows, texts opened once and wholly, their depth, and where each sign came from."""

import itertools
import unittest

from signforms.opening import depth, full, once, opened, sources
from signforms.tables import Table

BIG = 10 ** 60 - 1

# Ground signs 1, 2; marks 10, 11; rows of two (20, 21), of one (30, 31), a shut one (22), rows within rows (21, 31, 40).
MARKS = [(10, 5), (11, 3)]
ROWS = [
    (20, (1, 10)),
    (21, (20, 11)),
    (22, (2, 10)),
    (30, (2,)),
    (31, (21,)),
    (40, (22, 31)),
    (50, (10, 11)),
]
SHUTS = [22]

FULL = {
    20: [1, 10],
    21: [1, 10, 11],
    22: [2, 10],
    30: [2],
    31: [1, 10, 11],
    40: [2, 10, 1, 10, 11],
    50: [10, 11],
}
DEPTHS = {20: 1, 21: 2, 22: 1, 30: 1, 31: 3, 40: 4, 50: 1}
SIGNS = [0, 1, 2, 10, 11, 77, *FULL]


def sample():
    return Table(list(MARKS), list(ROWS), list(SHUTS))


def chain_of_ones(length):
    """Signs 100, 101, .. of which each one's row is the sign ahead; the first one's is the bare sign 99."""
    return Table([], [(100 + k, (99 + k,)) for k in range(length)], [])


def sixteen():
    """A sign, 105, whose full row has sixteen signs, four rows deep, and one, 104, of which it is made twice."""
    return Table([(7, 1)], [(102, (1, 7)), (103, (102, 102)), (104, (103, 103)), (105, (104, 104))], [])


class Full(unittest.TestCase):
    """[5]"""

    def test_bare_signs(self):
        table = sample()
        for sign in (0, 1, 2, 10, 11, 77, BIG):
            self.assertEqual(full(table, sign), [sign])

    def test_signs_with_rows(self):
        table = sample()
        for sign, expected in FULL.items():
            told = full(table, sign)
            self.assertIs(type(told), list)
            self.assertEqual(told, expected, sign)

    def test_the_table_that_says_nothing(self):
        self.assertEqual(full(Table([], [], []), 5), [5])

    def test_the_full_row_is_not_put_in_order(self):
        self.assertEqual(full(Table([(5, 9), (6, 1)], [(7, (5, 6))], []), 7), [5, 6])

    def test_sixteen_signs(self):
        self.assertEqual(full(sixteen(), 105), [1, 7] * 8)
        rows = [(100, (1, 2))] + [(100 + k, (99 + k, 2 + k)) for k in range(1, 15)]
        self.assertEqual(full(Table([], rows, []), 114), list(range(1, 17)))
        behind = [(100, (1, 2))] + [(100 + k, (2 + k, 99 + k)) for k in range(1, 15)]
        self.assertEqual(full(Table([], behind, []), 114), list(range(16, 2, -1)) + [1, 2])

    def test_a_chain_of_sixty(self):
        table = chain_of_ones(60)
        for k in range(60):
            self.assertEqual(full(table, 100 + k), [99])

    def test_a_chain_far_longer(self):
        self.assertEqual(full(chain_of_ones(3000), 3099), [99])

    def test_the_sign_nought_and_long_signs(self):
        table = Table([(BIG, 1)], [(0, (BIG - 1, BIG)), (BIG - 1, (5,)), (6, (0, 0))], [])
        self.assertEqual(full(table, 0), [5, BIG])
        self.assertEqual(full(table, 6), [5, BIG, 5, BIG])
        other = Table([(0, 4)], [(3, (0, 0)), (4, (0,))], [])
        self.assertEqual(full(other, 3), [0, 0])
        self.assertEqual(full(other, 4), [0])


class Once(unittest.TestCase):
    """[9]"""

    def test_each_sign_by_its_row_all_at_one_time(self):
        table = sample()
        self.assertEqual(once(table, [20]), [1, 10])
        self.assertEqual(once(table, [21]), [20, 11])
        self.assertEqual(once(table, [22]), [2, 10])
        self.assertEqual(once(table, [30]), [2])
        self.assertEqual(once(table, [31]), [21])
        self.assertEqual(once(table, [40]), [22, 31])
        self.assertEqual(once(table, [40, 1, 31, 20, 11, 77]), [22, 31, 1, 21, 1, 10, 11, 77])

    def test_a_list_is_told(self):
        table = sample()
        for text in ([], [1], [20], [21, 21]):
            self.assertIs(type(once(table, text)), list)

    def test_bare_signs_stay(self):
        table = sample()
        for text in ([], [1], [10, 11, 10], [77, 0, BIG]):
            self.assertEqual(once(table, text), text)

    def test_once_and_once_again(self):
        table = sample()
        self.assertEqual(once(table, once(table, [40])), [2, 10, 21])
        self.assertEqual(once(table, once(table, once(table, [40]))), [2, 10, 20, 11])


class Opened(unittest.TestCase):
    """[9]"""

    def test_the_text_of_no_signs(self):
        self.assertEqual(opened(sample(), []), [])

    def test_bare_signs_stay(self):
        table = sample()
        for text in ([1], [11, 10], [10, 11, 1, 10], [77, 0, BIG]):
            self.assertEqual(opened(table, text), text)

    def test_each_sign_by_its_full_row(self):
        table = sample()
        self.assertEqual(opened(table, [31, 2, 22]), [1, 10, 11, 2, 2, 10])
        for text in itertools.product(SIGNS, repeat=3):
            expected = [part for sign in text for part in FULL.get(sign, [sign])]
            self.assertEqual(opened(table, list(text)), expected, text)

    def test_a_list_is_told(self):
        for text in ([], [1], [20], [40]):
            self.assertIs(type(opened(sample(), text)), list)

    def test_it_is_opened_once_again_and_again(self):
        table = sample()
        for text in itertools.product(SIGNS, repeat=2):
            current = list(text)
            for time in range(depth(table, list(text))):
                current = once(table, current)
            self.assertEqual(opened(table, list(text)), current, text)

    def test_what_is_opened_stays(self):
        table = sample()
        for text in itertools.product(SIGNS, repeat=2):
            told = opened(table, list(text))
            self.assertEqual(opened(table, told), told)
            self.assertEqual(once(table, told), told)

    def test_two_thousand_signs(self):
        table = sixteen()
        self.assertEqual(opened(table, [105] * 2000), [1, 7] * 16000)
        self.assertEqual(opened(table, [9, 102] * 1000), [9, 1, 7] * 1000)


class Depth(unittest.TestCase):
    """[9]"""

    def test_nought_where_all_are_bare(self):
        table = sample()
        for text in ([], [1], [10, 11], [0, 77, BIG]):
            told = depth(table, text)
            self.assertIs(type(told), int)
            self.assertEqual(told, 0)

    def test_of_single_signs(self):
        table = sample()
        for sign, expected in DEPTHS.items():
            self.assertEqual(depth(table, [sign]), expected, sign)

    def test_the_deepest_sign_counts(self):
        table = sample()
        for text in itertools.product(SIGNS, repeat=3):
            expected = max(DEPTHS.get(sign, 0) for sign in text)
            self.assertEqual(depth(table, list(text)), expected, text)

    def test_the_deeper_sign_of_a_row_counts(self):
        self.assertEqual(depth(Table([], [(5, (1,)), (6, (5,)), (7, (6, 1)), (8, (1, 6))], []), [7]), 3)
        self.assertEqual(depth(Table([], [(5, (1,)), (6, (5,)), (7, (6, 1)), (8, (1, 6))], []), [8]), 3)

    def test_a_chain_of_sixty(self):
        table = chain_of_ones(60)
        for k in range(60):
            self.assertEqual(depth(table, [100 + k]), k + 1)
        self.assertEqual(depth(table, [159] * 3 + [100, 99]), 60)

    def test_sixteen_signs(self):
        self.assertEqual(depth(sixteen(), [105]), 4)


class Sources(unittest.TestCase):
    """[10]"""

    def test_the_text_of_no_signs(self):
        self.assertEqual(sources(sample(), []), [])

    def test_bare_signs(self):
        self.assertEqual(sources(sample(), [1, 10, 77, 0]), [0, 1, 2, 3])

    def test_signs_out_of_one_place(self):
        table = sample()
        self.assertEqual(sources(table, [40]), [0, 0, 0, 0, 0])
        self.assertEqual(sources(sixteen(), [105]), [0] * 16)

    def test_places_behind_one_another(self):
        table = sample()
        self.assertEqual(sources(table, [20, 1, 31, 30, 22]), [0, 0, 1, 2, 2, 2, 3, 4, 4])
        self.assertEqual(sources(table, [1, 40, 1]), [0, 1, 1, 1, 1, 1, 2])

    def test_like_signs_at_several_places(self):
        self.assertEqual(sources(sample(), [20, 20, 10, 10]), [0, 0, 1, 1, 2, 3])

    def test_a_list_is_told(self):
        for text in ([], [1], [40]):
            self.assertIs(type(sources(sample(), text)), list)

    def test_each_place_stands_as_often_as_its_full_row_has_signs(self):
        table = sample()
        for text in itertools.product(SIGNS, repeat=3):
            told = sources(table, list(text))
            self.assertEqual(told, sorted(told))
            self.assertEqual(len(told), len(opened(table, list(text))))
            for place, sign in enumerate(text):
                self.assertEqual(told.count(place), len(FULL.get(sign, [sign])))

    def test_a_chain_of_sixty(self):
        self.assertEqual(sources(chain_of_ones(60), [159, 99, 120]), [0, 1, 2])

    def test_two_thousand_signs(self):
        self.assertEqual(sources(sixteen(), [104] * 2000), [place for place in range(2000) for k in range(8)])


if __name__ == "__main__":
    unittest.main()
