"""Bodies of a text, and its pieces by rules, in either form."""

import itertools
import unittest

from signforms.joining import form_of, formed
from signforms.likeness import alike
from signforms.opening import full
from signforms.pieces import bodies, pieces
from signforms.rules import read_rules
from signforms.tables import Table

BIG = 10 ** 60 - 1
FORMS = ("apart", "together")

# Ground signs 1 to 5, of which 3 hangs on 1; marks 10 and 11 of one rank, 12, 13. Formed: 20 to 23, and 27, whose full
# row begins with a hanger. Shut: 24. Lost: 25. The full rows of 28 and 29 begin with a mark, that of 30 with a hanger.
MARKS = [(10, 3), (11, 3), (12, 5), (13, 7)]
ROWS = [(20, (1, 10)), (21, (20, 12)), (22, (1, 3)), (23, (22, 12)), (24, (2, 10)), (25, (21, 11)), (26, (2,))]
ROWS += [(27, (3, 10)), (28, (12, 13)), (29, (10, 1)), (30, (3,))]
SHUTS = [24]


def sample():
    return Table(list(MARKS), list(ROWS), list(SHUTS))


def some_tables():
    """Tables of two ground signs, two marks, and two signs with rows, the second one often with the first in it."""
    for first in ((1, 3), (1, 4), (1, 2), (2, 2), (2, 3), (3, 4)):
        for second in ((6, 3), (6, 4), (6, 2), (6, 1), (1, 4), (2, 1), (6,)):
            if first != second:
                yield Table([(3, 1), (4, 2)], [(6, first), (7, second)], [])
            yield Table([(3, 1), (4, 2)], [(6, first), (7, second)], [6])


def small_texts(signs, longest):
    for length in range(longest + 1):
        for text in itertools.product(signs, repeat=length):
            yield list(text)


def flat(texts):
    return [sign for text in texts for sign in text]


def expected_bodies(table, text, form):
    """[21], word by word."""
    hangers = [row[1] for made, row in table.rows() if len(row) == 2 and formed(table, made)]
    told = []
    for k, sign in enumerate(form_of(table, text, form)):
        head = full(table, sign)[0]
        if k == 0 or (table.row(head) is None and table.rank(head) == 0 and head not in hangers):
            told.append([])
        told[-1].append(sign)
    return told


class Bodies(unittest.TestCase):
    """[21]"""

    def cut(self, text, apart, together, table=None):
        table = sample() if table is None else table
        for form, expected in (("apart", apart), ("together", together)):
            with self.subTest(form, text=text):
                before = list(text)
                told = bodies(table, text, form)
                self.assertEqual(told, expected)
                self.assertIs(type(told), list)
                self.assertEqual({type(body) for body in told} - {list}, set())
                self.assertEqual(text, before)
        self.check(table, text)

    def check(self, table, text):
        """What [21] says of any text."""
        both = [bodies(table, text, form) for form in FORMS]
        for form, told in zip(FORMS, both):
            self.assertEqual(told, expected_bodies(table, text, form))
            self.assertEqual(flat(told), form_of(table, text, form))
            self.assertNotIn([], told)
        self.assertEqual(len(both[0]), len(both[1]))
        for one, other in zip(*both):
            self.assertTrue(alike(table, one, other))
            self.assertEqual(full(table, one[0])[0], full(table, other[0])[0])

    def test_the_text_of_no_signs(self):
        self.cut([], [], [])
        self.cut([], [], [], Table([], [], []))

    def test_one_sign(self):
        self.cut([1], [[1]], [[1]])
        self.cut([10], [[10]], [[10]])
        self.cut([3], [[3]], [[3]])
        self.cut([23], [[1, 3, 12]], [[23]])
        self.cut([24], [[2, 10]], [[2, 10]])
        self.cut([26], [[2]], [[2]])

    def test_a_first_sign_that_opens(self):
        self.cut([1, 10, 2], [[1, 10], [2]], [[20], [2]])
        self.cut([2, 12, 10, 1], [[2, 10, 12], [1]], [[2, 10, 12], [1]])
        self.cut([77, 0, BIG], [[77], [0], [BIG]], [[77], [0], [BIG]])

    def test_a_first_sign_that_does_not_open(self):
        self.cut([10, 12, 1], [[10, 12], [1]], [[10, 12], [1]])
        self.cut([3, 12, 1, 3], [[3, 12], [1, 3]], [[3, 12], [22]])
        self.cut([3, 3, 10], [[3, 3, 10]], [[3, 27]])
        self.cut([27, 27, 20], [[3, 10, 3, 10], [1, 10]], [[27, 27], [20]])
        self.cut([12, 3, 2], [[12, 3], [2]], [[12, 3], [2]])
        self.cut([30, 28, 2], [[3, 12, 13], [2]], [[3, 12, 13], [2]])

    def test_signs_whose_full_row_begins_with_a_mark(self):
        self.cut([1, 28, 28], [[1, 12, 12, 13, 13]], [[1, 12, 12, 13, 13]])
        self.cut([2, 28, 2], [[2, 12, 13], [2]], [[2, 12, 13], [2]])
        self.cut([2, 29, 2], [[2, 10], [1], [2]], [[2, 10], [1], [2]])
        self.cut([29, 29], [[10], [1, 10], [1]], [[10], [20], [1]])

    def test_signs_whose_full_row_begins_with_a_hanger(self):
        self.cut([1, 27], [[1, 3, 10]], [[22, 10]])
        self.cut([20, 27, 2, 27], [[1, 10, 3, 10], [2, 3, 10]], [[20, 27], [2, 27]])
        self.cut([2, 30, 1, 30], [[2, 3], [1, 3]], [[2, 3], [22]])

    def test_signs_whose_full_row_begins_with_a_stop(self):
        self.cut([20, 21, 22, 23], [[1, 10], [1, 10, 12], [1, 3], [1, 3, 12]], [[20], [21], [22], [23]])
        self.cut([24, 25, 26], [[2, 10], [1, 10, 11, 12], [2]], [[2, 10], [21, 11], [2]])

    def test_a_body_of_several_signs_that_hang(self):
        self.cut([1, 3, 3, 12, 3, 20], [[1, 3, 3, 12, 3], [1, 10]], [[22, 3, 12, 3], [20]])

    def test_texts_without_a_sign_that_opens(self):
        self.cut([12, 10, 3, 11, 27], [[10, 12, 3, 11, 3, 10]], [[10, 12, 3, 11, 27]])
        table = Table([], [(20, (1, 1))], [])
        self.cut([1, 1, 1], [[1, 1, 1]], [[20, 1]], table)

    def test_a_table_that_says_nothing(self):
        self.cut([5, 5, 10], [[5], [5], [10]], [[5], [5], [10]], Table([], [], []))

    def test_the_sign_nought_and_long_signs(self):
        table = Table([(BIG, 1)], [(BIG - 1, (0, BIG))], [])
        self.cut([BIG, 0, BIG, BIG - 1], [[BIG], [0, BIG], [0, BIG]], [[BIG], [BIG - 1], [BIG - 1]], table)

    def test_long_texts(self):
        text = [12, 1, 12, 10, 2, 3] * 300
        told = [[12]] + [[21], [2, 3, 12]] * 299 + [[21], [2, 3]]
        self.assertEqual(bodies(sample(), text, "together"), told)
        self.check(sample(), text)

    def test_texts_that_are_alike(self):
        for one, other in (([21, 2], [1, 12, 10, 26]), ([25], [20, 11, 12]), ([30, 1], [3, 1])):
            for form in FORMS:
                self.assertEqual(bodies(sample(), one, form), bodies(sample(), other, form))

    def test_small_texts_of_the_sample(self):
        signs = [1, 2, 3, 10, 12, *[sign for sign, row in ROWS], 77]
        for text in small_texts(signs, 2):
            self.check(sample(), text)
        for text in small_texts((1, 2, 3, 10, 12, 21, 27, 29), 3):
            self.check(sample(), text)

    def test_small_texts_of_many_tables(self):
        for table in some_tables():
            for text in small_texts((1, 2, 3, 4, 6, 7), 3):
                self.check(table, text)


class Pieces(unittest.TestCase):
    """What the tests of pieces share."""

    def cut(self, writing, text, together, table=None):
        table = sample() if table is None else table
        rules = read_rules(writing)
        before = list(text)
        with self.subTest(writing, text=text):
            told = pieces(table, rules, text, "together")
            self.assertEqual(told, together)
            self.assertIs(type(told), list)
            self.assertEqual({type(piece) for piece in told} - {list}, set())
            self.assertEqual(text, before)
            self.check(table, rules, text)

    def check(self, table, rules, text):
        """What [24] says of any text."""
        both = [pieces(table, rules, text, form) for form in FORMS]
        for form, told in zip(FORMS, both):
            self.assertEqual(told, self.expected(table, rules, text, form))
            self.assertEqual(flat(told), form_of(table, text, form))
            self.assertNotIn([], told)
        self.assertEqual(len(both[0]), len(both[1]))
        for one, other in zip(*both):
            self.assertTrue(alike(table, one, other))

    def expected(self, table, rules, text, form):
        found = expected_bodies(table, text, form)
        kinds = [rules.kind(full(table, body[0])[0]) for body in found]
        cuts = [k for k in range(1, len(found)) if not rules.keeps(kinds[:k], kinds[k:])]
        told = [flat(found[low:high]) for low, high in zip([0] + cuts, cuts + [len(found)])]
        return [piece for piece in told if piece]


class KeptAndCut(Pieces):
    """[23], [24]: where a text is kept whole, and where it is cut."""

    def test_the_text_of_no_signs(self):
        for writing in ("", "keep |", "cut |", "keep edge |", "keep | edge"):
            self.cut(writing, [], [])

    def test_a_text_of_one_body(self):
        for writing in ("", "keep |", "cut |", "cut any | any", "cut edge | edge"):
            self.cut(writing, [1, 10, 12, 3], [[21, 3]])
            self.cut(writing, [10, 3], [[10, 3]])

    def test_where_none_fits(self):
        self.cut("", [20, 2, 1, 3], [[20], [2], [22]])
        self.cut("kind a 1\nkeep a | a", [20, 2, 1], [[20], [2], [1]])
        self.cut("kind a 1", [20, 2, 1], [[20], [2], [1]])

    def test_kept_whole(self):
        self.cut("keep |", [20, 2, 1, 3, 12], [[20, 2, 23]])
        self.cut("keep any | any", [12, 1, 1], [[12, 1, 1]])

    def test_cut_everywhere(self):
        self.cut("cut |", [20, 2, 1, 3, 12], [[20], [2], [23]])
        self.cut("cut |\nkeep any | any", [1, 2], [[1], [2]])

    def test_kept_behind_a_kind(self):
        self.cut("kind a 1\nkeep a |", [20, 2, 1, 1, 2, 2], [[20, 2], [1, 1, 2], [2]])

    def test_kept_ahead_of_a_kind(self):
        self.cut("kind a 1\nkeep | a", [20, 2, 1, 1, 2, 2, 4], [[20], [2, 1, 1], [2], [2], [4]])

    def test_kept_between_two_kinds(self):
        writing = "kind a 1\nkind b 2 4\nkeep a | b\n"
        self.cut(writing, [1, 2, 1, 4, 2, 1, 5, 2], [[1, 2], [1, 4], [2], [1], [5], [2]])

    def test_pairs_of_a_kind(self):
        """Whole only where an even number of the kind stands ahead, as far as the rule sees."""
        writing = "kind a 1\ncut a a | a\nkeep a | a\n"
        self.cut(writing, [1, 1, 1, 1, 2, 1, 1], [[1, 1], [1], [1], [2], [1, 1]])

    def test_the_first_row_that_fits(self):
        kinds = "kind a 1\nkind b 2\n"
        self.cut(kinds + "cut a | b\nkeep |\n", [1, 2, 1, 1, 2], [[1], [2, 1, 1], [2]])
        self.cut(kinds + "keep |\ncut a | b\n", [1, 2, 1, 1, 2], [[1, 2, 1, 1, 2]])
        self.cut(kinds + "keep a | b\ncut a |\nkeep | a\ncut |\n", [1, 2, 1, 1, 2, 2], [[1, 2, 1], [1, 2], [2]])

    def test_kinds_that_are_other(self):
        self.cut("kind a 1\nkeep other | other", [1, 2, 4, 77, 1, 0, 5], [[1], [2, 4, 77], [1], [0, 5]])

    def test_the_sign_that_heads_a_body(self):
        """The first sign of the full row of its first sign, in either form."""
        self.cut("kind a 1\nkeep a | a", [21, 22, 1, 12, 2, 23], [[21, 22, 1, 12], [2], [23]])
        self.cut("kind a 20 21 22 10 12\nkeep a |\nkeep | a\n", [21, 22, 1, 2], [[21], [22], [1], [2]])
        self.cut("kind a 2\nkeep | a", [1, 24, 26, 1], [[1, 2, 10, 2], [1]])

    def test_a_first_body_headed_by_a_mark_or_a_hanger(self):
        self.cut("kind m 10\nkeep m |", [10, 12, 1, 1], [[10, 12, 1], [1]])
        self.cut("kind m 10\nkeep m |", [12, 10, 1, 1], [[10, 12, 1], [1]])
        self.cut("kind m 12\nkeep m |", [12, 10, 1, 1], [[10, 12], [1], [1]])
        self.cut("kind h 3\nkeep h |", [27, 1, 3, 1], [[27, 22], [1]])
        self.cut("kind h 3\nkeep h |", [30, 2, 3, 1], [[3, 2, 3], [1]])
        self.cut("kind k 28 12\nkeep k |", [28, 1, 1], [[12, 13, 1], [1]])

    def test_signs_within_a_body_are_of_no_kind(self):
        self.cut("kind a 3 10 12\nkeep a |\nkeep | a\n", [1, 3, 2, 12, 1, 10], [[22], [2, 12], [20]])

    def test_rules_without_a_table_of_their_own(self):
        rules = read_rules("kind a 1\nkind b 2\nkeep a | b")
        self.assertEqual(pieces(sample(), rules, [1, 2, 1, 3], "together"), [[1, 2], [22]])
        table = Table([], [(20, (1, 2))], [])
        self.assertEqual(pieces(table, rules, [1, 2, 1, 3], "together"), [[20], [1], [3]])
        self.assertEqual(pieces(sample(), rules, [1, 2, 1, 3], "together"), [[1, 2], [22]])

    def test_the_apart_form(self):
        rules = read_rules("kind a 1\nkeep a | a\n")
        self.assertEqual(pieces(sample(), rules, [21, 23, 2, 25], "apart"), [[1, 10, 12, 1, 3, 12], [2], [1, 10, 11, 12]])
        self.assertEqual(pieces(sample(), rules, [12, 29, 2], "apart"), [[10, 12], [1], [2]])
        self.assertEqual(pieces(sample(), rules, [], "apart"), [])


class Reach(Pieces):
    """[24]: rules with reach 0 to 3, and places near the text's edges."""

    def test_reach_nought(self):
        self.assertEqual(read_rules("keep |").reach(), 0)
        self.cut("keep |", [1, 2, 4], [[1, 2, 4]])
        self.cut("cut |", [1, 2, 4], [[1], [2], [4]])
        self.cut("kind a 1", [1, 1], [[1], [1]])

    def test_reach_one(self):
        self.cut("kind a 1\nkeep a | other", [1, 2, 1, 1, 4], [[1, 2], [1], [1, 4]])
        self.cut("keep edge |\nkeep | edge", [1, 2, 4], [[1], [2], [4]])

    def test_reach_two(self):
        self.cut("keep edge any |", [1, 2, 4, 5], [[1, 2], [4], [5]])
        self.cut("keep | any edge", [1, 2, 4, 5], [[1], [2], [4, 5]])
        self.cut("keep edge any | any edge", [1, 2], [[1, 2]])
        self.cut("keep edge any | any edge", [1, 2, 4], [[1], [2], [4]])
        self.cut("cut any any |\nkeep |", [1, 2, 4, 5], [[1, 2], [4], [5]])
        self.cut("kind a 1\nkeep a other | other", [1, 2, 4, 5, 1, 4, 5], [[1], [2, 4], [5], [1], [4, 5]])

    def test_reach_three(self):
        self.cut("keep edge any any |", [1, 2, 4, 5], [[1], [2, 4], [5]])
        self.cut("keep | any any edge", [1, 2, 4, 5, 1], [[1], [2], [4, 5], [1]])
        self.cut("keep edge edge any |", [1, 2, 4], [[1, 2], [4]])
        self.cut("keep | any edge edge", [1, 2, 4], [[1], [2, 4]])
        self.cut("keep any any any |", [1, 2, 4, 5, 1], [[1], [2], [4, 5, 1]])
        self.cut("keep | any any any", [1, 2, 4, 5, 1], [[1, 2, 4], [5], [1]])
        writing = "kind a 1\nkind b 2\nkeep a b a | b a b"
        self.cut(writing, [1, 2, 1, 2, 1, 2], [[1], [2], [1, 2], [1], [2]])
        self.cut(writing, [1, 2, 1, 2, 1], [[1], [2], [1], [2], [1]])

    def test_a_first_body_that_does_not_open_is_a_body(self):
        self.cut("keep edge any any |", [12, 1, 2, 4], [[12], [1, 2], [4]])
        self.cut("keep edge any |", [3, 1, 2], [[3, 1], [2]])

    def test_bodies_farther_off_change_nothing(self):
        """Also the number of them, where the edge is not as near as the reach."""
        rows = ("keep |", "keep a | b", "keep a b |", "keep | any b", "keep b any | a", "cut a b a |\nkeep | b a b")
        rows += ("keep edge a b | any", "keep any | any edge", "keep any edge any |\nkeep b | a a edge")
        for row, form in itertools.product(rows, FORMS):
            rules = read_rules("kind a 1\nkind b 2\n" + row)
            near = list(itertools.product((20, 2), repeat=rules.reach()))
            for ahead, behind in itertools.product(near, repeat=2):
                with self.subTest(row, form=form, ahead=ahead, behind=behind):
                    self.assertEqual(len(self.told_with_others_far_off(rules, ahead, behind, form)), 1)

    def told_with_others_far_off(self, rules, ahead, behind, form):
        """Whether the place between these bodies is cut, in texts that go on beyond them in many ways."""
        table = sample()
        found = set()
        for far, beyond in itertools.product(([], [1], [2], [20, 2]), repeat=2):
            told = pieces(table, rules, [4, *far, *ahead, *behind, *beyond, 4], form)
            ends = list(itertools.accumulate(len(bodies(table, piece, form)) for piece in told))
            found.add(1 + len(far) + len(ahead) in ends)
        return found

    def test_an_edge_as_near_as_the_reach_may_change_it(self):
        rules = read_rules("keep edge any any |")
        self.assertEqual(pieces(sample(), rules, [1, 2, 4], "together"), [[1], [2, 4]])
        self.assertEqual(pieces(sample(), rules, [5, 1, 2, 4], "together"), [[5], [1, 2], [4]])


class AllSmallTexts(Pieces):
    """[3], [24], of every small text."""

    WRITINGS = (
        "", "keep |", "kind a 1\nkeep a |", "kind a 1\nkind b 2\nkeep a | b\ncut b |\nkeep other | any",
        "kind m 3 4\nkeep m | other\nkeep edge any |", "kind a 1\nkeep | a edge\nkeep any a | other",
        "keep edge any any | any edge edge", "cut edge any |\nkeep any any | any",
    )

    def test_the_sample(self):
        signs = [1, 2, 3, 10, 12, 21, 24, 27, 29, 77]
        for writing in self.WRITINGS:
            rules = read_rules(writing)
            for text in list(small_texts(signs, 3))[::3]:
                self.check(sample(), rules, text)

    def test_many_tables(self):
        for number, table in enumerate(some_tables()):
            rules = read_rules(self.WRITINGS[number % len(self.WRITINGS)])
            for text in small_texts((1, 2, 3, 4, 6, 7), 3):
                self.check(table, rules, text)

    def test_long_texts(self):
        text = [12, 1, 12, 10, 2, 3, 24, 77] * 250
        for writing in self.WRITINGS:
            self.check(sample(), read_rules(writing), text)

    def test_texts_that_are_alike(self):
        for writing in self.WRITINGS:
            rules = read_rules(writing)
            for one, other in (([21, 2, 22], [1, 12, 10, 26, 1, 30]), ([1, 25], [1, 20, 11, 12]), ([30, 1], [3, 1])):
                for form in FORMS:
                    self.assertEqual(pieces(sample(), rules, one, form), pieces(sample(), rules, other, form))


if __name__ == "__main__":
    unittest.main()
