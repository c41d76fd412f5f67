"""Single steps of a text: done, taken back, and refused."""

import itertools
import unittest

from signforms.errors import FormError, NoStep
from signforms.joining import together
from signforms.onestep import back, done
from signforms.ordering import apart
from signforms.tables import Table

BIG = 10 ** 60 - 1
# A number that Python does not write as figures unless it is told to.
VAST = 10 ** 5000

# Ground signs 1, 2; marks 10 and 11 of one rank, 12; rows of two (20, 21, 24), of one (30, 31), shut ones (22, 23).
MARKS = [(10, 3), (11, 3), (12, 5)]
ROWS = [(20, (1, 10)), (21, (20, 12)), (22, (1, 10)), (23, (2, 2)), (24, (10, 12)), (30, (2,)), (31, (20,))]
SHUTS = [22, 23]
ROW_OF = dict(ROWS)
RANK_OF = dict(MARKS)
SIGNS = [1, 2, 10, 11, 12, 20, 21, 22, 23, 24, 30, 31]


def sample():
    return Table(list(MARKS), list(ROWS), list(SHUTS))


def steps_of(text):
    """[16], word by word: all steps of a text, each with the text that it makes and the step back."""
    found = {}
    for k, sign in enumerate(text):
        if sign in ROW_OF:
            found[("open", k)] = (text[:k] + list(ROW_OF[sign]) + text[k + 1:], ("close", k, sign))
        for closed, row in ROWS:
            if text[k:k + len(row)] == list(row):
                found[("close", k, closed)] = (text[:k] + [closed] + text[k + len(row):], ("open", k))
        if k + 1 < len(text):
            one, other = RANK_OF.get(sign, 0), RANK_OF.get(text[k + 1], 0)
            if one > 0 and other > 0 and one != other:
                found[("swap", k)] = (text[:k] + [text[k + 1], sign] + text[k + 2:], ("swap", k))
    return found


def steps_tried(text):
    """Steps of all sorts, at all places of a text and about it, of all signs."""
    for k in range(-len(text) - 2, len(text) + 3):
        yield ("open", k)
        yield ("swap", k)
        for sign in [-1, 0, 77, *SIGNS]:
            yield ("close", k, sign)


class Steps(unittest.TestCase):
    """What the tests of steps share."""

    def makes(self, text, step, made, step_back):
        table = sample()
        before = list(text)
        told = done(table, text, step)
        self.assertIs(type(told), list)
        self.assertEqual(told, made)
        self.assertEqual(text, before)
        told_back = back(table, text, step)
        self.assertIs(type(told_back), tuple)
        self.assertEqual(told_back, step_back)
        self.assertEqual(text, before)
        self.assertEqual(done(table, made, step_back), text)
        self.assertEqual(back(table, made, step_back), step)

    def refused(self, text, step):
        table = sample()
        before = list(text)
        for asked in (done, back):
            with self.assertRaises(FormError) as caught:
                asked(table, text, step)
            self.assertIs(type(caught.exception), NoStep)
            self.assertEqual(text, before)


class Done(Steps):
    """[16]: what a step makes, and the step back."""

    def test_opened(self):
        self.makes([20], ("open", 0), [1, 10], ("close", 0, 20))
        self.makes([1, 21, 2], ("open", 1), [1, 20, 12, 2], ("close", 1, 21))
        self.makes([1, 2, 30], ("open", 2), [1, 2, 2], ("close", 2, 30))
        self.makes([31, 31], ("open", 1), [31, 20], ("close", 1, 31))

    def test_a_shut_sign_opened(self):
        self.makes([10, 22], ("open", 1), [10, 1, 10], ("close", 1, 22))

    def test_closed(self):
        self.makes([1, 10], ("close", 0, 20), [20], ("open", 0))
        self.makes([2, 20, 12, 2], ("close", 1, 21), [2, 21, 2], ("open", 1))
        self.makes([1, 2], ("close", 1, 30), [1, 30], ("open", 1))
        self.makes([10, 12, 1], ("close", 0, 24), [24, 1], ("open", 0))

    def test_closed_to_a_shut_sign(self):
        self.makes([1, 10], ("close", 0, 22), [22], ("open", 0))
        self.makes([2, 2, 2], ("close", 1, 23), [2, 23], ("open", 1))
        self.makes([2, 2, 2], ("close", 0, 23), [23, 2], ("open", 0))

    def test_exchanged(self):
        self.makes([12, 10], ("swap", 0), [10, 12], ("swap", 0))
        self.makes([10, 12], ("swap", 0), [12, 10], ("swap", 0))
        self.makes([1, 11, 12, 10], ("swap", 1), [1, 12, 11, 10], ("swap", 1))
        self.makes([1, 11, 12, 10], ("swap", 2), [1, 11, 10, 12], ("swap", 2))

    def test_the_sign_nought_and_long_signs(self):
        table = Table([(0, 1), (BIG, 2)], [(BIG - 1, (5, 0)), (6, (BIG,))], [])
        self.assertEqual(done(table, [5, 0], ("close", 0, BIG - 1)), [BIG - 1])
        self.assertEqual(done(table, [0, BIG], ("swap", 0)), [BIG, 0])
        self.assertEqual(done(table, [BIG, 0], ("swap", 0)), [0, BIG])
        self.assertEqual(back(table, [BIG - 1], ("open", 0)), ("close", 0, BIG - 1))
        other = Table([(10, 1)], [(0, (1, 10))], [])
        self.assertEqual(done(other, [1, 10], ("close", 0, 0)), [0])
        self.assertEqual(done(other, [0], ("open", 0)), [1, 10])
        self.assertEqual(back(other, [0], ("open", 0)), ("close", 0, 0))

    def test_a_long_text(self):
        text = [1, 10] * 1000
        self.makes(text, ("close", 1998, 20), text[:-2] + [20], ("open", 1998))


class NoSuchStep(Steps):
    """[16]: what is refused."""

    def test_a_place_below_nought(self):
        for step in (("open", -1), ("close", -1, 30), ("swap", -1), ("swap", -2), ("close", -2, 20), ("open", -VAST)):
            self.refused([20], step)
            self.refused([12, 10], step)
            self.refused([1, 10], step)
            self.refused([2, 2], step)
            self.refused([12, 1, 10], step)
            self.refused([], step)

    def test_a_place_at_the_end_or_beyond(self):
        for text in ([], [20], [2, 20], [12, 10]):
            for k in (len(text), len(text) + 1, len(text) + 7, 10 ** 30, VAST):
                self.refused(text, ("open", k))
                self.refused(text, ("close", k, 30))
                self.refused(text, ("close", k, 20))
                self.refused(text, ("swap", k))

    def test_a_bare_sign_opened(self):
        for sign in (0, 1, 2, 10, 12, 77, BIG):
            self.refused([20, sign, 20], ("open", 1))

    def test_a_row_that_does_not_stand_there(self):
        self.refused([1, 12], ("close", 0, 20))
        self.refused([10, 1], ("close", 0, 20))
        self.refused([1, 1, 10], ("close", 0, 20))
        self.refused([1], ("close", 0, 30))
        self.refused([22], ("close", 0, 31))
        self.refused([1, 10, 12], ("close", 0, 21))

    def test_a_row_that_stands_there_in_part(self):
        self.refused([1], ("close", 0, 20))
        self.refused([10, 1], ("close", 1, 20))
        self.refused([2], ("close", 0, 23))
        self.refused([1, 2], ("close", 1, 23))
        self.refused([10], ("close", 0, 20))

    def test_a_sign_without_a_row_closed(self):
        for sign in (0, 1, 10, 12, 77, BIG, -1, -20, VAST, -VAST):
            self.refused([1, 10], ("close", 0, sign))
            self.refused([1], ("close", 0, sign))
            self.refused([], ("close", 0, sign))

    def test_an_exchange_of_like_ranks(self):
        for text in ([10, 11], [11, 10], [10, 10], [12, 12]):
            self.refused(text, ("swap", 0))

    def test_an_exchange_of_a_sign_that_is_no_mark(self):
        for sign in (1, 77, 20, 22, 24, 30, BIG):
            self.refused([12, sign], ("swap", 0))
            self.refused([sign, 12], ("swap", 0))
            self.refused([sign, sign], ("swap", 0))
        self.refused([1, 2], ("swap", 0))

    def test_an_exchange_with_nothing_behind(self):
        self.refused([12], ("swap", 0))
        self.refused([12, 10], ("swap", 1))

    def test_the_text_of_no_signs(self):
        for step in steps_tried([]):
            self.refused([], step)


class AllSmallTexts(Steps):
    """[16], put beside what the document says, of every text of up to three signs, and of every step about it."""

    def test_all(self):
        table = sample()
        for length in range(3):
            for text in itertools.product(SIGNS, repeat=length):
                expected = steps_of(list(text))
                for step in steps_tried(text):
                    if step in expected:
                        self.makes(list(text), step, *expected[step])
                    else:
                        self.refused(list(text), step)
        for text in itertools.product((1, 2, 10, 11, 12, 20), repeat=3):
            for step, (made, step_back) in steps_of(list(text)).items():
                self.makes(list(text), step, made, step_back)
        self.assertEqual(table.rows(), sorted(ROWS))

    def test_both_forms_stay_the_same(self):
        """[3]: texts that lead to one another by steps have the same forms."""
        table = sample()
        for text in itertools.product(SIGNS, repeat=3):
            one, other = apart(table, list(text)), together(table, list(text))
            for step in steps_of(list(text)):
                made = done(table, list(text), step)
                self.assertEqual(apart(table, made), one)
                self.assertEqual(together(table, made), other)


if __name__ == "__main__":
    unittest.main()
