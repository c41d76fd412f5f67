"""Search: where a text wanted is found, and what is found put otherwise."""

import itertools
import unittest

from signforms.errors import FormError, Nothing
from signforms.joining import formed, together
from signforms.likeness import alike
from signforms.opening import full
from signforms.ordering import apart
from signforms.search import changed, places
from signforms.tables import Table

BIG = 10 ** 60 - 1

# Ground signs 1 to 5, of which 3 hangs on 1; marks 10 and 11 of one rank, 12. Formed: 20 to 23, and 27, whose full row
# begins with a hanger. Shut: 24. Lost: 25.
MARKS = [(10, 3), (11, 3), (12, 5)]
ROWS = [(20, (1, 10)), (21, (20, 12)), (22, (1, 3)), (23, (22, 12)), (24, (2, 10)), (25, (21, 11)), (26, (2,))]
ROWS += [(27, (3, 10))]
SHUTS = [24]


def sample():
    return Table(list(MARKS), list(ROWS), list(SHUTS))


def some_tables():
    """Tables of two ground signs, two marks, and two signs with rows, the second one often with the first in it."""
    for first in ((1, 3), (1, 4), (1, 2), (2, 2), (2, 3), (3, 4)):
        for second in ((6, 3), (6, 4), (6, 2), (6, 1), (1, 4), (2, 1), (6,)):
            if first != second:
                yield Table([(3, 1), (4, 2)], [(6, first), (7, second)], [])
            yield Table([(3, 1), (4, 2)], [(6, first), (7, second)], [6])


def small_texts(signs, longest):
    for length in range(longest + 1):
        for text in itertools.product(signs, repeat=length):
            yield list(text)


def expected_places(table, text, wanted):
    """[25], word by word."""
    form = together(table, text)
    hangers = [row[1] for made, row in table.rows() if len(row) == 2 and formed(table, made)]
    heads = [full(table, sign)[0] for sign in form]
    stops = [table.rank(head) == 0 and head not in hangers for head in heads]
    begins = [k for k in range(len(form)) if k == 0 or stops[k]]
    pairs = itertools.product(begins, begins + [len(form)])
    return sorted((low, high) for low, high in pairs if low < high and alike(table, form[low:high], wanted))


def expected_change(table, text, wanted, by):
    """[26], word by word."""
    form = together(table, text)
    taken = []
    for low, high in expected_places(table, text, wanted):
        if not taken or low >= taken[-1][1]:
            taken.append((low, high))
    for low, high in taken[::-1]:
        form[low:high] = by
    return together(table, form)


class Places(unittest.TestCase):
    """[25]"""

    def found(self, text, wanted, expected, table=None):
        table = sample() if table is None else table
        with self.subTest(text=text, wanted=wanted):
            before = list(text), list(wanted)
            told = places(table, text, wanted)
            self.assertEqual(told, expected)
            self.assertIs(type(told), list)
            self.assertEqual({type(each) for each in told} - {tuple}, set())
            self.assertEqual((text, wanted), before)
            if len(text) < 100:
                self.assertEqual(told, expected_places(table, text, wanted))

    def test_ordinary_finds(self):
        self.found([1, 2, 4], [2], [(1, 2)])
        self.found([2, 20, 4], [20], [(1, 2)])
        self.found([2, 20, 4], [20, 4], [(1, 3)])
        self.found([2, 21, 2], [2], [(0, 1), (2, 3)])

    def test_nothing_found(self):
        self.found([1, 2, 4], [5], [])
        self.found([1, 2, 4], [2, 1], [])
        self.found([1, 2, 4], [1, 2, 4, 1], [])
        self.found([20, 2], [1], [])
        self.found([1, 2], [10], [])

    def test_whole_bodies_alone(self):
        """No letter without its marks, nor marks without their letter."""
        self.found([1, 12, 2], [1], [])
        self.found([1, 12, 2], [12], [])
        self.found([2, 12, 10], [2, 10], [])
        self.found([21, 1, 10, 1], [20], [(1, 2)])
        self.found([1, 3, 1], [1], [(1, 2)])
        self.found([2, 3, 2], [3], [])
        self.found([4, 10, 12, 4], [4, 10], [])
        self.found([2, 1, 10], [2, 1], [])

    def test_at_the_first_place_where_its_sign_does_not_open(self):
        self.found([10, 12, 1, 10], [10, 12], [(0, 2)])
        self.found([12, 10, 1], [12, 10], [(0, 2)])
        self.found([12, 10, 1], [10, 12, 1], [(0, 3)])
        self.found([3, 1], [3], [(0, 1)])
        self.found([27, 1, 3], [3, 10], [(0, 1)])
        self.found([10], [10], [(0, 1)])
        self.found([10, 12, 1], [10], [])
        self.found([10, 12, 1], [12], [])
        self.found([12, 1, 12], [12], [(0, 1)])

    def test_up_to_the_end_of_the_form(self):
        self.found([4, 2, 12, 10], [2, 10, 12], [(1, 4)])
        self.found([4, 1, 10, 12], [21], [(1, 2)])
        self.found([4, 2], [4, 2], [(0, 2)])
        self.found([4, 2], [2], [(1, 2)])

    def test_several_bodies_long(self):
        self.found([4, 1, 10, 2, 12, 5], [20, 2, 12], [(1, 4)])
        self.found([1, 10, 2, 1, 3, 5, 20, 2, 22], [20, 2, 22], [(0, 3), (4, 7)])
        self.found([2, 12, 4], [2, 12, 4], [(0, 3)])

    def test_places_of_the_together_form(self):
        self.found([1, 10, 1, 12, 10, 2], [2], [(2, 3)])
        self.found([25, 24, 26], [2], [(4, 5)])
        self.found([25, 24, 26], [24], [(2, 4)])
        self.found([25, 24, 26], [25], [(0, 2)])

    def test_overlapping_ones(self):
        self.found([2, 2, 2], [2, 2], [(0, 2), (1, 3)])
        self.found([20, 2, 20, 2, 20], [20, 2, 20], [(0, 3), (2, 5)])
        self.found([4] * 5, [4, 4, 4], [(0, 3), (1, 4), (2, 5)])

    def test_all_of_them(self):
        self.found([2] * 4, [2], [(0, 1), (1, 2), (2, 3), (3, 4)])
        self.found([2, 12] * 3, [2, 12], [(0, 2), (2, 4), (4, 6)])

    def test_more_than_nine(self):
        """Sorted as numbers are, and not as figures."""
        self.found([2] * 12, [2, 2], [(k, k + 2) for k in range(11)])
        self.found([2, 4] * 60, [4], [(2 * k + 1, 2 * k + 2) for k in range(60)])

    def test_other_alike_writings(self):
        texts = [[4, 21, 22, 4], [4, 1, 12, 10, 1, 3, 4], [4, 20, 12, 22, 4], [4, 1, 10, 12, 22, 4]]
        wanted = [[21, 22], [20, 12, 1, 3], [1, 12, 10, 22], [1, 10, 12, 1, 3]]
        for text, each in itertools.product(texts, wanted):
            self.found(text, each, [(1, 3)])
        for text, each in itertools.product(([24, 26], [2, 10, 2]), ([26], [2])):
            self.found(text, each, [(2, 3)])

    def test_a_text_wanted_that_is_not_in_form(self):
        self.found([21, 11, 2], [25], [(0, 2)])
        self.found([21, 11, 2], [1, 12, 10, 11], [(0, 2)])
        self.found([21, 11, 2], [1, 12, 11, 10], [])

    def test_a_text_of_no_signs(self):
        self.found([], [1], [])
        self.found([], [10, 12], [])
        self.found([], [1], [], Table([], [], []))

    def test_the_whole_text(self):
        for text in ([1], [10], [3, 1], [25], [12, 10], [1, 2, 27]):
            self.found(text, list(text), [(0, len(together(sample(), text)))])

    def test_the_same_list_for_both(self):
        text = [2, 1, 10]
        self.assertEqual(places(sample(), text, text), [(0, 2)])
        self.assertEqual(text, [2, 1, 10])

    def test_the_sign_nought_and_long_signs(self):
        table = Table([(BIG, 1)], [(BIG - 1, (0, BIG))], [])
        self.found([BIG - 1, 0, 0, BIG], [0, BIG], [(0, 1), (2, 3)], table)
        self.found([BIG - 1, 0, 0, BIG], [0], [(1, 2)], table)

    def test_long_texts(self):
        self.found([1, 12, 10, 2] * 500, [21, 2], [(2 * k, 2 * k + 2) for k in range(500)])
        self.found([2] * 2000, [2] * 1500, [(k, k + 1500) for k in range(501)])
        self.found([2] * 2000, [2] * 2001, [])

    def test_a_text_wanted_of_no_signs(self):
        for text in ([], [1], [10, 12], [1, 2] * 500):
            with self.assertRaises(FormError) as caught:
                places(sample(), text, [])
            self.assertIs(type(caught.exception), Nothing)


class Changed(unittest.TestCase):
    """[26]"""

    def put(self, text, wanted, by, expected, table=None):
        table = sample() if table is None else table
        with self.subTest(text=text, wanted=wanted, by=by):
            before = list(text), list(wanted), list(by)
            told = changed(table, text, wanted, by)
            self.assertEqual(told, expected)
            self.assertIs(type(told), list)
            self.assertEqual((text, wanted, by), before)
            if len(text) < 100:
                self.assertEqual(told, expected_change(table, text, wanted, by))

    def test_ordinary_changes(self):
        self.put([1, 2, 4], [2], [5], [1, 5, 4])
        self.put([1, 10, 2, 1, 10], [20], [4, 4], [4, 4, 2, 4, 4])
        self.put([1, 2, 4], [1, 2, 4], [5], [5])
        self.put([2, 4, 2, 4, 2], [2, 4], [1], [1, 1, 2])

    def test_what_comes_is_in_form(self):
        self.put([4, 2, 4], [2], [1, 12, 10], [4, 21, 4])
        self.put([4, 2, 4], [2], [25, 26], [4, 21, 11, 2, 4])

    def test_what_is_put_in_is_not_looked_at_again(self):
        self.put([2, 4], [2], [2, 2], [2, 2, 4])
        self.put([2, 2], [2], [4, 2], [4, 2, 4, 2])

    def test_overlapping_ones_are_taken_from_the_first_on(self):
        self.put([2, 2, 2], [2, 2], [4], [4, 2])
        self.put([2, 2, 2, 2], [2, 2], [4], [4, 4])
        self.put([2] * 5, [2, 2], [4], [4, 4, 2])
        self.put([20, 2, 20, 2, 20, 2, 20], [20, 2, 20], [5], [5, 2, 5])
        self.put([4, 2, 2, 2], [2, 2], [5], [4, 5, 2])

    def test_neighbouring_ones_are_both_taken(self):
        self.put([2, 4, 2, 4], [2, 4], [5], [5, 5])
        self.put([2, 2], [2], [4], [4, 4])

    def test_joined_with_what_stands_ahead(self):
        self.put([1, 2, 4], [2], [10, 12], [21, 4])
        self.put([1, 12, 2], [2], [10], [21])
        self.put([1, 2], [2], [3, 12], [23])
        self.put([20, 2, 2], [2], [12], [21, 12])

    def test_what_stands_behind_opens(self):
        """So nothing of it is joined with what is put in, not even where a row would fit that is never formed."""
        self.put([12, 10, 4], [10, 12], [1], [1, 4])
        self.put([3, 12, 1], [3, 12], [1, 12], [1, 12, 1])
        table = Table([], [(20, (1, 3)), (21, (5, 4))], [21])
        self.put([2, 3, 4], [2], [5], [2, 3, 4], Table([], [(20, (1, 3))], []))
        self.put([2, 4, 1], [2], [5], [5, 4, 1], table)
        self.put([1, 3, 4], [20], [5], [5, 4], table)

    def test_joined_over_what_is_gone(self):
        self.put([1, 2, 1], [2], [10], [20, 1])
        self.put([4, 12, 2, 4], [2], [10, 10], [4, 10, 10, 12, 4])
        self.put([1, 2, 2, 4], [2], [12], [1, 12, 12, 4])
        self.put([1, 2, 2, 4], [2], [10, 12], [21, 10, 12, 4])

    def test_put_in_of_no_signs(self):
        self.put([1, 2, 4], [2], [], [1, 4])
        self.put([2, 2], [2], [], [])
        self.put([2, 2, 2], [2, 2], [], [2])
        self.put([12, 1], [12], [], [1])
        self.put([1, 2, 12, 4], [2, 12], [], [1, 4])

    def test_nothing_found(self):
        self.put([1, 12, 10, 2], [4], [5], [21, 2])
        self.put([25], [1], [5], [21, 11])
        self.put([20], [20, 20], [], [20])

    def test_a_text_of_no_signs(self):
        self.put([], [1], [2], [])
        self.put([], [10], [], [])

    def test_put_otherwise_by_itself(self):
        self.put([25, 24], [24], [2, 10], [21, 11, 2, 10])
        self.put([12, 10, 1], [10, 12], [12, 10], [10, 12, 1])

    def test_a_text_wanted_of_no_signs(self):
        for text, by in (([], []), ([1], []), ([1, 2], [4]), ([], [1])):
            with self.assertRaises(FormError) as caught:
                changed(sample(), text, [], by)
            self.assertIs(type(caught.exception), Nothing)

    def test_alike_writings(self):
        for text, wanted, by in itertools.product(
            ([4, 21, 22], [4, 1, 12, 10, 1, 3]), ([21], [20, 12], [1, 12, 10]), ([20], [1, 10])
        ):
            self.put(text, wanted, by, [4, 20, 22])

    def test_one_list_for_all(self):
        text = [2, 1, 10]
        self.assertEqual(changed(sample(), text, text, text), [2, 20])
        self.assertEqual(text, [2, 1, 10])

    def test_long_texts(self):
        self.put([1, 12, 10, 2] * 500, [2], [4, 12], [21, 4, 12] * 500)
        self.put([2] * 2000, [2] * 3, [4], [4] * 666 + [2] * 2)


class AllSmallTexts(unittest.TestCase):
    """[3], [25], [26], of every small text and many texts wanted."""

    def check(self, table, text, wanted, by):
        self.assertEqual(places(table, text, wanted), expected_places(table, text, wanted))
        self.assertEqual(changed(table, text, wanted, by), expected_change(table, text, wanted, by))

    def test_the_sample(self):
        signs = (1, 2, 3, 10, 12, 20, 22, 24)
        wanted = [text for text in small_texts(signs, 2) if text]
        by = itertools.cycle(small_texts((1, 3, 10, 2), 2))
        for text in list(small_texts(signs, 3))[::7]:
            for each in wanted[len(text)::7]:
                self.check(sample(), text, each, next(by))

    def test_many_tables(self):
        by = itertools.cycle(small_texts((1, 2, 3, 4, 6), 2))
        for number, table in enumerate(some_tables()):
            wanted = [text for text in small_texts((1, 2, 3, 4, 6, 7), 2) if text]
            for text in list(small_texts((1, 2, 3, 4, 6, 7), 3))[number % 5::5]:
                for each in wanted[(number + sum(text)) % 11::11]:
                    self.check(table, text, each, next(by))

    def test_parts_of_the_text_itself(self):
        """So that most are found."""
        for table in list(some_tables())[::3]:
            for text in list(small_texts((1, 2, 3, 6), 4))[::7]:
                for low, high in itertools.combinations(range(len(text) + 1), 2):
                    self.check(table, text, text[low:high], [2, 4])

    def test_found_in_each_text_alike_it(self):
        for table in list(some_tables())[::5]:
            wanted = [text for text in small_texts((1, 2, 4, 6), 2) if text]
            for text in list(small_texts((1, 2, 3, 4, 7), 3))[::2]:
                for each in wanted[::4]:
                    told = places(table, text, each)
                    for other in (apart(table, text), together(table, text)):
                        self.assertEqual(places(table, other, each), told)
                        self.assertEqual(places(table, other, apart(table, each)), told)
                        self.assertEqual(places(table, other, together(table, each)), told)


if __name__ == "__main__":
    unittest.main()
