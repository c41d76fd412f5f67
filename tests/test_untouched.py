"""[2]: what is handed over is only looked at, what is told belongs to whoever asked, like questions have like answers.

Of all that is told of a table and a text, or of two: opening, ordering, joining, single steps, likeness, looks, borders,
pieces, search. What is told of a table alone is asked in test_tidy, kept texts in test_kept, rules in test_rules.
"""

import copy
import itertools
import unittest

from signforms.borders import joined
from signforms.errors import FormError, NoStep
from signforms.joining import form_of, formed, together
from signforms.likeness import alike, steps
from signforms.looks import hanger, opens, quick, stop
from signforms.onestep import back, done
from signforms.opening import depth, full, once, opened, sources
from signforms.ordering import apart, exchanges, falls, ordered
from signforms.pieces import bodies, pieces
from signforms.rules import read_rules
from signforms.search import changed, places
from signforms.tables import Table

# One for all questions, so that what one of them would leave there is seen by the next.
RULES = read_rules("kind a 1\nkind b 2 77\nkeep a | b\nkeep any b | any\n")

LISTS = {
    "full": lambda table, text: full(table, text[0] if text else 21),
    "once": once,
    "opened": opened,
    "sources": sources,
    "falls": falls,
    "ordered": ordered,
    "exchanges": exchanges,
    "apart": apart,
    "together": together,
    "form apart": lambda table, text: form_of(table, text, "apart"),
    "form together": lambda table, text: form_of(table, text, "together"),
    "bodies apart": lambda table, text: bodies(table, text, "apart"),
    "bodies together": lambda table, text: bodies(table, text, "together"),
    "pieces apart": lambda table, text: pieces(table, RULES, text, "apart"),
    "pieces together": lambda table, text: pieces(table, RULES, text, "together"),
}
OTHERS = {
    "depth": depth,
    "formed": lambda table, text: [formed(table, sign) for sign in text],
    "hanger": lambda table, text: [hanger(table, sign) for sign in text],
    "stop": lambda table, text: [stop(table, sign) for sign in text],
    "opens": lambda table, text: [opens(table, sign) for sign in text],
    "quick apart": lambda table, text: quick(table, text, "apart"),
    "quick together": lambda table, text: quick(table, text, "together"),
}
# Of two texts; each of these may be refused.
OF_TWO = {
    "alike": alike,
    "steps": steps,
    "joined apart": lambda table, one, other: joined(table, one, other, "apart"),
    "joined together": lambda table, one, other: joined(table, one, other, "together"),
    "places": places,
    "changed": lambda table, one, other: changed(table, one, other, [12, 2]),
    "changed by": lambda table, one, other: changed(table, [1, 12, 2, 1], one, other),
    "changed nothing": lambda table, one, other: changed(table, one, [5, 5, 5], other),
}
STEPS = [("open", 0), ("close", 0, 20), ("close", 1, 30), ("swap", 1), ("swap", 2), ("open", 9), ("swap", -1)]
TEXTS = [[], [1], [12, 10], [1, 12, 10], [21, 11, 1, 12, 11], [40, 30, 12, 10, 2], [1, 10, 12], [10, 12, 10, 1, 77]]


def one_table():
    marks = [(10, 3), (11, 3), (12, 5)]
    return Table(marks, [(20, (1, 10)), (21, (20, 12)), (22, (1, 10)), (30, (2,)), (40, (22, 21))], [22])


def other_table():
    """Says otherwise of the very same signs."""
    marks = [(10, 7), (11, 2), (1, 9)]
    return Table(marks, [(20, (12, 11)), (21, (2, 20)), (30, (77, 1)), (40, (12,)), (22, (12, 10))], [20])


def answer(asked, table, text, step):
    try:
        return asked(table, text, step)
    except NoStep:
        return "refused"


def all_told(table, text):
    told = {name: asked(table, text) for name, asked in {**LISTS, **OTHERS}.items()}
    for step in STEPS:
        told["done", step] = answer(done, table, text, step)
        told["back", step] = answer(back, table, text, step)
    return told


def copied(told):
    return copy.deepcopy(told)


def change_all(told, change):
    """A told list changed, and ahead of that each list within it."""
    for inner in [each for each in told if isinstance(each, list)]:
        change(inner)
    change(told)


def lists_of(table):
    return table.marks(), table.rows(), table.shuts()


def told_of_two(table, one, other):
    told = {}
    for name, asked in OF_TWO.items():
        try:
            told[name] = asked(table, one, other)
        except FormError as refusal:
            told[name] = (type(refusal), vars(refusal))
    return told


def lists_told(told):
    """The lists among what is told of two texts: steps, finds, texts, and those that stand first in what is joined."""
    found = [value[0] if isinstance(value, tuple) else value for value in told.values()]
    return [value for value in found if isinstance(value, list)]


class HandedOver(unittest.TestCase):
    def test_texts_stay_as_they_were(self):
        for text in TEXTS:
            for name, asked in {**LISTS, **OTHERS}.items():
                with self.subTest(name, text=text):
                    handed = list(text)
                    asked(one_table(), handed)
                    self.assertEqual(handed, text)
            for step in STEPS:
                with self.subTest(step, text=text):
                    handed = list(text)
                    answer(done, one_table(), handed, step)
                    answer(back, one_table(), handed, step)
                    self.assertEqual(handed, text)

    def test_tables_stay_as_they_were(self):
        table = one_table()
        for text in TEXTS:
            all_told(table, text)
        self.assertEqual(lists_of(table), lists_of(one_table()))

    def test_a_text_changed_afterwards_changes_nothing_told(self):
        for text in TEXTS:
            handed = list(text)
            told = all_told(one_table(), handed)
            before = copied(told)
            handed.append(5)
            handed.insert(0, 20)
            handed.reverse()
            self.assertEqual(told, before)
            handed.clear()
            self.assertEqual(told, before)

    def test_a_text_changed_is_another_text(self):
        table = one_table()
        handed = [1, 12, 10]
        all_told(table, handed)
        handed[:] = [21, 11]
        self.assertEqual(all_told(table, handed), all_told(one_table(), [21, 11]))


class Told(unittest.TestCase):
    def change_each(self, change):
        for text in TEXTS:
            table = one_table()
            handed = list(text)
            expected = copied(all_told(one_table(), list(text)))
            for name, asked in LISTS.items():
                with self.subTest(name, text=text):
                    change_all(asked(table, handed), change)
                    self.assertEqual(handed, text)
                    self.assertEqual(all_told(table, handed), expected)
            for step in STEPS:
                with self.subTest(step, text=text):
                    told = answer(done, table, handed, step)
                    if told != "refused":
                        change(told)
                    self.assertEqual(handed, text)
                    self.assertEqual(all_told(table, handed), expected)
            self.assertEqual(lists_of(table), lists_of(one_table()))

    def test_emptied(self):
        self.change_each(list.clear)

    def test_lengthened(self):
        self.change_each(lambda told: told.extend([20, 5, 10]))

    def test_turned_round(self):
        self.change_each(list.reverse)

    def test_what_is_told_is_not_what_was_handed_in(self):
        """Also where nothing was to be done."""
        table = one_table()
        for text in ([], [1], [1, 10, 12], [77]):
            for name, asked in LISTS.items():
                with self.subTest(name, text=text):
                    self.assertIsNot(asked(table, text), text)
                    self.assertIsNot(asked(table, text), asked(table, text))

    def test_what_is_told_later_changes_nothing_told(self):
        table = one_table()
        told = [all_told(table, text) for text in TEXTS]
        before = [copied(each) for each in told]
        for text in TEXTS[::-1]:
            all_told(table, text)
            all_told(other_table(), text)
        self.assertEqual(told, before)


class AskedAgain(unittest.TestCase):
    def test_the_same_of_the_same(self):
        table = one_table()
        for text in TEXTS:
            self.assertEqual(all_told(table, text), all_told(table, list(text)))
            self.assertEqual(all_told(table, text), all_told(one_table(), text))

    def test_two_tables_in_turn(self):
        one, other = one_table(), other_table()
        for text in TEXTS:
            of_one, of_other = all_told(one, text), all_told(other, text)
            self.assertEqual(of_one, all_told(one_table(), text))
            self.assertEqual(of_other, all_told(other_table(), text))
            self.assertEqual(all_told(one, text), of_one)
            self.assertEqual(all_told(other, text), of_other)
        self.assertEqual((apart(one, [21]), apart(other, [21])), ([1, 10, 12], [2, 12, 11]))
        self.assertEqual((together(one, [21]), together(other, [21])), ([21], [2, 12, 11]))
        self.assertEqual((ordered(one, [10, 11]), ordered(other, [10, 11])), ([10, 11], [11, 10]))

    def test_two_rules_in_turn(self):
        table = one_table()
        one, other = read_rules("kind a 1\nkeep a | other"), read_rules("kind a 2 1\nkeep other | a\nkeep a a |")
        text = [1, 2, 77, 1, 12, 2]
        for time in range(3):
            self.assertEqual(pieces(table, one, text, "together"), [[1, 2], [77], [1, 12, 2]])
            self.assertEqual(pieces(table, other, text, "together"), [[1], [2, 77, 1, 12], [2]])

    def test_tables_made_and_gone(self):
        for time in range(50):
            self.assertEqual(apart(one_table(), [21]), [1, 10, 12])
            self.assertEqual(apart(other_table(), [21]), [2, 12, 11])


class OfTwoTexts(unittest.TestCase):
    """Likeness, borders and search, of every two of the texts."""

    def test_texts_and_tables_stay_as_they_were(self):
        table = one_table()
        for one, other in itertools.product(TEXTS, repeat=2):
            handed = list(one), list(other)
            told_of_two(table, *handed)
            self.assertEqual(handed, (one, other))
        self.assertEqual(lists_of(table), lists_of(one_table()))

    def test_texts_changed_afterwards_change_nothing_told(self):
        for one, other in itertools.product(TEXTS, repeat=2):
            handed = list(one), list(other)
            told = told_of_two(one_table(), *handed)
            for text in handed:
                text.extend([5, 20])
                text.reverse()
            self.assertEqual(told, told_of_two(one_table(), one, other))

    def test_told_lists_changed_change_nothing(self):
        changes = (list.clear, list.reverse, lambda told: told.extend([20, 5, 10]))
        for change, one, other in itertools.product(changes, TEXTS, TEXTS):
            table = one_table()
            handed = list(one), list(other)
            for found in lists_told(told_of_two(table, *handed)):
                change(found)
            self.assertEqual(handed, (one, other))
            self.assertEqual(told_of_two(table, *handed), told_of_two(one_table(), one, other))
            self.assertEqual(lists_of(table), lists_of(one_table()))

    def test_what_is_told_is_not_what_was_handed_in(self):
        """Also where one of the two has no signs, or both are one list."""
        table = one_table()
        for one, other in ([[], [2]], [[2], []], [[], []], [[21], [21]], [[2, 12], [1]]):
            for first, second in ((one, other), (one, one)):
                for found in lists_told(told_of_two(table, first, second)):
                    self.assertIsNot(found, first)
                    self.assertIsNot(found, second)

    def test_one_list_handed_in_twice(self):
        for text in TEXTS:
            handed = list(text)
            told = told_of_two(one_table(), handed, handed)
            self.assertEqual(handed, text)
            self.assertEqual(told, told_of_two(one_table(), list(text), list(text)))

    def test_two_tables_in_turn(self):
        one, other = one_table(), other_table()
        for first, second in itertools.product(TEXTS, repeat=2):
            for time in range(2):
                self.assertEqual(told_of_two(one, first, second), told_of_two(one_table(), first, second))
                self.assertEqual(told_of_two(other, first, second), told_of_two(other_table(), first, second))
        self.assertEqual((alike(one, [20], [1, 10]), alike(other, [20], [1, 10])), (True, False))
        self.assertEqual((hanger(one, 12), hanger(other, 12)), (True, False))
        self.assertEqual((opens(one, 40), opens(other, 40)), (True, True))
        self.assertEqual((opens(one, 1), opens(other, 1)), (True, False))
        self.assertEqual(joined(one, [1], [10], "together"), ([20], 0, 1))
        self.assertEqual(joined(other, [2], [10], "together"), ([2, 10], 0, 1))

    def test_a_text_changed_is_another_text(self):
        table = one_table()
        one, other = [2, 1], [10, 2]
        self.assertEqual(joined(table, one, other, "together"), ([2, 20, 2], 1, 1))
        one.append(2)
        other[0] = 77
        self.assertEqual(joined(table, one, other, "together"), ([2, 1, 2, 77, 2], 3, 0))


if __name__ == "__main__":
    unittest.main()
