"""[2]: what is handed over is only looked at, what is told belongs to whoever asked, like questions have like answers.

Of all that is told of a table and a text: opening, ordering, joining, single steps.
"""

import unittest

from signforms.errors import NoStep
from signforms.joining import form_of, formed, together
from signforms.onestep import back, done
from signforms.opening import depth, full, once, opened, sources
from signforms.ordering import apart, exchanges, falls, ordered
from signforms.tables import Table

LISTS = {
    "full": lambda table, text: full(table, text[0] if text else 21),
    "once": once,
    "opened": opened,
    "sources": sources,
    "falls": falls,
    "ordered": ordered,
    "exchanges": exchanges,
    "apart": apart,
    "together": together,
    "form apart": lambda table, text: form_of(table, text, "apart"),
    "form together": lambda table, text: form_of(table, text, "together"),
}
OTHERS = {
    "depth": depth,
    "formed": lambda table, text: [formed(table, sign) for sign in text],
}
STEPS = [("open", 0), ("close", 0, 20), ("close", 1, 30), ("swap", 1), ("swap", 2), ("open", 9), ("swap", -1)]
TEXTS = [[], [1], [12, 10], [1, 12, 10], [21, 11, 1, 12, 11], [40, 30, 12, 10, 2], [1, 10, 12], [10, 12, 10, 1, 77]]


def one_table():
    marks = [(10, 3), (11, 3), (12, 5)]
    return Table(marks, [(20, (1, 10)), (21, (20, 12)), (22, (1, 10)), (30, (2,)), (40, (22, 21))], [22])


def other_table():
    """Says otherwise of the very same signs."""
    marks = [(10, 7), (11, 2), (1, 9)]
    return Table(marks, [(20, (12, 11)), (21, (2, 20)), (30, (77, 1)), (40, (12,)), (22, (12, 10))], [20])


def answer(asked, table, text, step):
    try:
        return asked(table, text, step)
    except NoStep:
        return "refused"


def all_told(table, text):
    told = {name: asked(table, text) for name, asked in {**LISTS, **OTHERS}.items()}
    for step in STEPS:
        told["done", step] = answer(done, table, text, step)
        told["back", step] = answer(back, table, text, step)
    return told


def copied(told):
    return {name: list(value) if isinstance(value, list) else value for name, value in told.items()}


def lists_of(table):
    return table.marks(), table.rows(), table.shuts()


class HandedOver(unittest.TestCase):
    def test_texts_stay_as_they_were(self):
        for text in TEXTS:
            for name, asked in {**LISTS, **OTHERS}.items():
                with self.subTest(name, text=text):
                    handed = list(text)
                    asked(one_table(), handed)
                    self.assertEqual(handed, text)
            for step in STEPS:
                with self.subTest(step, text=text):
                    handed = list(text)
                    answer(done, one_table(), handed, step)
                    answer(back, one_table(), handed, step)
                    self.assertEqual(handed, text)

    def test_tables_stay_as_they_were(self):
        table = one_table()
        for text in TEXTS:
            all_told(table, text)
        self.assertEqual(lists_of(table), lists_of(one_table()))

    def test_a_text_changed_afterwards_changes_nothing_told(self):
        for text in TEXTS:
            handed = list(text)
            told = all_told(one_table(), handed)
            before = copied(told)
            handed.append(5)
            handed.insert(0, 20)
            handed.reverse()
            self.assertEqual(told, before)
            handed.clear()
            self.assertEqual(told, before)

    def test_a_text_changed_is_another_text(self):
        table = one_table()
        handed = [1, 12, 10]
        all_told(table, handed)
        handed[:] = [21, 11]
        self.assertEqual(all_told(table, handed), all_told(one_table(), [21, 11]))


class Told(unittest.TestCase):
    def change_each(self, change):
        for text in TEXTS:
            table = one_table()
            handed = list(text)
            expected = copied(all_told(one_table(), list(text)))
            for name, asked in LISTS.items():
                with self.subTest(name, text=text):
                    change(asked(table, handed))
                    self.assertEqual(handed, text)
                    self.assertEqual(all_told(table, handed), expected)
            for step in STEPS:
                with self.subTest(step, text=text):
                    told = answer(done, table, handed, step)
                    if told != "refused":
                        change(told)
                    self.assertEqual(handed, text)
                    self.assertEqual(all_told(table, handed), expected)
            self.assertEqual(lists_of(table), lists_of(one_table()))

    def test_emptied(self):
        self.change_each(list.clear)

    def test_lengthened(self):
        self.change_each(lambda told: told.extend([20, 5, 10]))

    def test_turned_round(self):
        self.change_each(list.reverse)

    def test_what_is_told_is_not_what_was_handed_in(self):
        """Also where nothing was to be done."""
        table = one_table()
        for text in ([], [1], [1, 10, 12], [77]):
            for name, asked in LISTS.items():
                with self.subTest(name, text=text):
                    self.assertIsNot(asked(table, text), text)
                    self.assertIsNot(asked(table, text), asked(table, text))

    def test_what_is_told_later_changes_nothing_told(self):
        table = one_table()
        told = [all_told(table, text) for text in TEXTS]
        before = [copied(each) for each in told]
        for text in TEXTS[::-1]:
            all_told(table, text)
            all_told(other_table(), text)
        self.assertEqual(told, before)


class AskedAgain(unittest.TestCase):
    def test_the_same_of_the_same(self):
        table = one_table()
        for text in TEXTS:
            self.assertEqual(all_told(table, text), all_told(table, list(text)))
            self.assertEqual(all_told(table, text), all_told(one_table(), text))

    def test_two_tables_in_turn(self):
        one, other = one_table(), other_table()
        for text in TEXTS:
            of_one, of_other = all_told(one, text), all_told(other, text)
            self.assertEqual(of_one, all_told(one_table(), text))
            self.assertEqual(of_other, all_told(other_table(), text))
            self.assertEqual(all_told(one, text), of_one)
            self.assertEqual(all_told(other, text), of_other)
        self.assertEqual((apart(one, [21]), apart(other, [21])), ([1, 10, 12], [2, 12, 11]))
        self.assertEqual((together(one, [21]), together(other, [21])), ([21], [2, 12, 11]))
        self.assertEqual((ordered(one, [10, 11]), ordered(other, [10, 11])), ([10, 11], [11, 10]))

    def test_tables_made_and_gone(self):
        for time in range(50):
            self.assertEqual(apart(one_table(), [21]), [1, 10, 12])
            self.assertEqual(apart(other_table(), [21]), [2, 12, 11])


if __name__ == "__main__":
    unittest.main()
