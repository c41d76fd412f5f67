"""[3], over the whole program: what several modules tell of the same texts goes together.

Tables and texts are drawn by a source of chance that is set, so each run has the same ones. Alike texts are made by
single steps alone, and not by the forms that they are held against.
"""

import itertools
import random
import unittest

from signforms.borders import joined
from signforms.errors import FormError, NoUndo, Unlike
from signforms.joining import form_of, formed, together
from signforms.kept import Kept
from signforms.likeness import alike, steps
from signforms.looks import opens, quick
from signforms.onestep import done
from signforms.opening import full, opened
from signforms.ordering import apart
from signforms.pieces import bodies, pieces
from signforms.reading import read, shown
from signforms.rules import read_rules
from signforms.search import changed, places
from signforms.tables import Table
from signforms.tidy import idle, least, lost

FORMS = ("apart", "together")
GROUND = (1, 2, 3)
MARKS = (4, 5, 6)
MADE = (7, 8, 9, 10, 11, 12)
SIGNS = GROUND + MARKS + MADE
WRITINGS = (
    "", "keep |", "kind a 1\nkeep a |\nkeep | a edge\n", "kind a 1\nkind b 2 4\nkeep a | b\ncut b |\nkeep other any | any\n",
    "kind m 4 5 6\nkeep m | other\nkeep edge any any | any edge\n", "cut edge any |\nkeep any any any | any\n",
)


def drawn_row(chance, made):
    known = GROUND + MARKS + tuple(made)
    if chance.randrange(6) == 0:
        return (chance.choice(known),)
    # A letter of a kind ahead more often than not, so that some of the signs are formed.
    first = chance.choice(GROUND + tuple(made)) if chance.randrange(4) else chance.choice(known)
    return first, chance.choice(known if chance.randrange(3) == 0 else GROUND[1:] + MARKS)


def drawn_table(chance):
    while True:
        rows = []
        for sign in MADE:
            rows.append((sign, drawn_row(chance, [made for made, row in rows])))
        marks = [(sign, chance.choice((2, 7, 7, 40, 999))) for sign in MARKS]
        pairs = [sign for sign, row in rows if len(row) == 2]
        shuts = [sign for sign in pairs if chance.randrange(3) == 0]
        try:
            return Table(marks, rows, shuts)
        except FormError:
            continue


def drawn_text(chance, longest):
    return [chance.choice(SIGNS) for time in range(chance.randrange(longest + 1))]


def drawn_step(chance, table, text):
    """One of the steps there are, by the words of [16]; None where there is none."""
    found = []
    for k, sign in enumerate(text):
        if table.row(sign) is not None:
            found.append(("open", k))
        ranks = [table.rank(each) for each in text[k:k + 2]]
        if len(ranks) == 2 and min(ranks) > 0 and ranks[0] != ranks[1]:
            found.append(("swap", k))
        found += [("close", k, made) for made, row in table.rows() if tuple(text[k:k + len(row)]) == row]
    return chance.choice(found) if found else None


def alike_texts(chance, table, text, number):
    """Texts to which single steps lead."""
    current = text
    for time in range(number):
        step = drawn_step(chance, table, current)
        if step is not None:
            current = done(table, current, step)
        yield current


def flat(texts):
    return [sign for text in texts for sign in text]


def cases(number, texts, longest):
    """Some dozens of tables, each with its own source of chance and with some texts."""
    for seed in range(number):
        chance = random.Random(seed)
        table = drawn_table(chance)
        for time in range(texts):
            yield chance, table, drawn_text(chance, longest)


class Drawn(unittest.TestCase):
    def test_the_tables_are_not_all_of_one_sort(self):
        tables = [drawn_table(random.Random(seed)) for seed in range(60)]
        for asked in (lost, idle, lambda table: [sign for sign in MADE if formed(table, sign)]):
            self.assertGreater(len([table for table in tables if asked(table)]), 20)
        opening = [{opens(table, sign) for sign in GROUND} for table in tables]
        self.assertGreater(opening.count({True, False}), 20)


class Forms(unittest.TestCase):
    def test_alike_texts_have_the_same_forms_and_those_alone(self):
        for chance, table, text in cases(60, 8, 6):
            both = [form_of(table, text, form) for form in FORMS]
            for other in alike_texts(chance, table, text, 6):
                self.assertEqual([form_of(table, other, form) for form in FORMS], both)
                self.assertIs(alike(table, text, other), True)
            for form in FORMS:
                self.assertIs(alike(table, text, form_of(table, text, form)), True)
                for again in FORMS:
                    self.assertEqual(form_of(table, form_of(table, text, form), again), form_of(table, text, again))

    def test_steps_or_the_place_where_the_forms_part(self):
        for chance, table, text in cases(60, 8, 3):
            for other in [*alike_texts(chance, table, text, 3), drawn_text(chance, 3)]:
                one_form, other_form = apart(table, text), apart(table, other)
                if one_form == other_form:
                    current = text
                    for step in steps(table, text, other):
                        current = done(table, current, step)
                    self.assertEqual(current, other)
                else:
                    self.assertIs(alike(table, text, other), False)
                    with self.assertRaises(Unlike) as caught:
                        steps(table, text, other)
                    at = caught.exception.at
                    self.assertEqual(one_form[:at], other_form[:at])
                    self.assertNotEqual(one_form[at:at + 1], other_form[at:at + 1])

    def test_quick_looks_are_true(self):
        for chance, table, text in cases(60, 20, 3):
            for form in FORMS:
                for each in (text, form_of(table, text, form)):
                    answer = quick(table, each, form)
                    self.assertIn(answer, ("yes", "no", "maybe"))
                    if answer != "maybe":
                        self.assertEqual(form_of(table, each, form) == each, answer == "yes")

    def test_two_texts_one_behind_the_other(self):
        for chance, table, text in cases(60, 8, 5):
            other = drawn_text(chance, 5)
            for form in FORMS:
                one, two = form_of(table, text, form), form_of(table, other, form)
                whole, left, right = joined(table, one, two, form)
                self.assertEqual(whole, form_of(table, text + other, form))
                self.assertEqual(whole[:left], one[:left])
                self.assertEqual(whole[len(whole) - len(two) + right:], two[right:])


class Cut(unittest.TestCase):
    def test_bodies_and_pieces_in_both_forms(self):
        for chance, table, text in cases(60, 12, 8):
            rules = read_rules(chance.choice(WRITINGS))
            for cut in (lambda form: bodies(table, text, form), lambda form: pieces(table, rules, text, form)):
                both = [cut(form) for form in FORMS]
                self.assertEqual(len(both[0]), len(both[1]))
                for one, other in zip(*both):
                    self.assertIs(alike(table, one, other), True)
                for form, found in zip(FORMS, both):
                    self.assertNotIn([], found)
                    self.assertEqual(flat(found), form_of(table, text, form))
                    # Each is its own form, and the pieces are joined without a look at what is ahead of them.
                    for each in found:
                        self.assertEqual(form_of(table, each, form), each)
                    whole = []
                    for each in found:
                        end = len(whole)
                        whole, left, right = joined(table, whole, each, form)
                        self.assertTrue(end == 0 or (left, right) == (end, 0))

    def test_pieces_of_alike_texts(self):
        for chance, table, text in cases(40, 4, 6):
            rules = read_rules(chance.choice(WRITINGS))
            for other, form in itertools.product(alike_texts(chance, table, text, 3), FORMS):
                self.assertEqual(pieces(table, rules, other, form), pieces(table, rules, text, form))

    def test_the_bodies_about_a_place_tell_whether_it_is_cut(self):
        """A part of the text, with as many bodies about the place as the reach and one more, is cut there alike."""
        for chance, table, text in cases(60, 6, 14):
            rules = read_rules(chance.choice(WRITINGS))
            for form in FORMS:
                found = bodies(table, text, form)
                whole = self.cuts(table, rules, text, form)
                for place in range(1, len(found)):
                    low = max(0, place - rules.reach() - 1)
                    part = flat(found[low:place + rules.reach() + 1])
                    self.assertEqual(place - low in self.cuts(table, rules, part, form), place in whole)

    def cuts(self, table, rules, text, form):
        numbers = [len(bodies(table, piece, form)) for piece in pieces(table, rules, text, form)]
        return list(itertools.accumulate(numbers))[:-1]


class Found(unittest.TestCase):
    def test_in_each_text_alike_it(self):
        for chance, table, text in cases(60, 6, 8):
            found = bodies(table, text, "apart")
            low = chance.randrange(len(found) + 1)
            wanted = flat(found[low:low + chance.randrange(1, 3)]) or [chance.choice(SIGNS)]
            told = places(table, text, wanted)
            made = changed(table, text, wanted, [2, 5])
            others = list(alike_texts(chance, table, text, 4))
            for other, sought in itertools.zip_longest(others, alike_texts(chance, table, wanted, 4)):
                self.assertEqual(places(table, other, sought), told)
                self.assertEqual(changed(table, other, sought, [2, 5]), made)
            form = together(table, text)
            for begin, end in told:
                self.assertIs(alike(table, form[begin:end], wanted), True)

    def test_each_body_is_found_and_each_piece(self):
        for chance, table, text in cases(40, 4, 8):
            rules = read_rules(chance.choice(WRITINGS))
            for form, cut in itertools.product(FORMS, (bodies, lambda *asked: pieces(table, rules, *asked[1:]))):
                ends = [0, *itertools.accumulate(len(each) for each in cut(table, text, "together"))]
                for begin, end, each in zip(ends, ends[1:], cut(table, text, form)):
                    self.assertIn((begin, end), places(table, text, each))

    def test_what_is_changed_by_itself_is_as_before(self):
        for chance, table, text in cases(60, 4, 6):
            for wanted in bodies(table, text, "apart"):
                self.assertEqual(changed(table, text, wanted, wanted), together(table, text))


class Tables(unittest.TestCase):
    def test_lost_rows_with_the_form_that_shows_it(self):
        for chance, table, text in cases(120, 1, 0):
            for sign, form in lost(table):
                self.assertNotEqual(form, [sign])
                self.assertIs(alike(table, form, [sign]), True)
                self.assertNotIn(sign, together(table, form))
            shown_by_it = [sign for sign, form in lost(table)]
            for sign, row in table.rows():
                if len(row) == 2 and not table.is_shut(sign):
                    self.assertEqual(sign in shown_by_it, together(table, [sign]) != [sign])

    def test_a_lost_sign_stands_in_no_form(self):
        for chance, table, text in cases(120, 8, 6):
            self.assertEqual(set(together(table, text)) & {sign for sign, form in lost(table)}, set())

    def test_the_least_table_and_one_shown_and_read_again(self):
        for chance, table, text in cases(120, 8, 6):
            rules = read_rules(chance.choice(WRITINGS))
            for other in (least(table), read(shown(table)), read(shown(least(table)))):
                self.assertEqual(other.rows(), table.rows())
                for form in FORMS:
                    self.assertEqual(form_of(other, text, form), form_of(table, text, form))
                    self.assertEqual(pieces(other, rules, text, form), pieces(table, rules, text, form))
                self.assertEqual(places(other, text, text or [1]), places(table, text, text or [1]))
                self.assertEqual(Kept(other, text).doors(), Kept(table, text).doors())

    def test_without_idle_signs_all_forms_are_as_before(self):
        for chance, table, text in cases(120, 8, 6):
            for sign in idle(table):
                other = Table(table.marks(), table.rows(), [shut for shut in table.shuts() if shut != sign])
                for form in FORMS:
                    self.assertEqual(form_of(other, text, form), form_of(table, text, form))
                self.assertIn(sign, [each for each, form in lost(other)])
            self.assertEqual(idle(least(table)), [])


class KeptTexts(unittest.TestCase):
    """A kept text beside the plain one, which is never put together: what is put in is put into its apart form."""

    def place_in_plain(self, table, plain, kept, door):
        """Where a door of the kept text lies in the apart form of the plain one: ahead of the same body."""
        ends = [0, *itertools.accumulate(len(body) for body in bodies(table, kept.text(), "together"))]
        self.assertEqual(kept.doors(), ends)
        return len(flat(bodies(table, plain, "apart")[:ends.index(door)]))

    def check(self, table, rules, plain, kept):
        self.assertIs(alike(table, plain, kept.text()), True)
        self.assertEqual(kept.text(), together(table, plain))
        self.assertEqual(flat(pieces(table, rules, plain, "together")), kept.text())

    def test_deeds_beside_the_plain_text(self):
        for chance, table, text in cases(60, 2, 6):
            rules = read_rules(chance.choice(WRITINGS))
            kept, plain, plains = Kept(table, text), text, []
            self.check(table, rules, plain, kept)
            for time in range(12):
                low, high = sorted(chance.choices(kept.doors(), k=2))
                begin, end = [self.place_in_plain(table, plain, kept, door) for door in (low, high)]
                taken = chance.randrange(3) == 0
                come = [] if taken else drawn_text(chance, 4)
                plains.append(plain)
                if taken:
                    kept.take(low, high)
                    plain = apart(table, plain)[:begin] + apart(table, plain)[end:]
                else:
                    kept.put(low, come)
                    plain = apart(table, plain)[:begin] + come + apart(table, plain)[begin:]
                self.check(table, rules, plain, kept)
                if chance.randrange(4) == 0:
                    kept.undo()
                    plain = plains.pop()
                    self.check(table, rules, plain, kept)
            while plains:
                kept.undo()
                self.check(table, rules, plains.pop(), kept)
            self.assertRaises(NoUndo, kept.undo)

    def test_changed_by_hand(self):
        """What is found is taken out of a kept text and another one put in, from the last on."""
        for chance, table, text in cases(60, 4, 8):
            wanted = chance.choice(bodies(table, text, "together") or [[1]])
            # What opens is not joined with a body ahead of it that is still to be taken out.
            heads = [[sign] for sign in SIGNS if opens(table, sign)]
            by = chance.choice(heads) + drawn_text(chance, 2) if heads and chance.randrange(4) else []
            kept = Kept(table, text)
            # One body is wanted, so none of the finds overlaps another.
            for begin, end in places(table, text, wanted)[::-1]:
                kept.take(begin, end)
                kept.put(begin, by)
            self.assertEqual(kept.text(), changed(table, text, wanted, by))

    def test_put_at_the_end_and_joined(self):
        for chance, table, text in cases(60, 6, 6):
            other = drawn_text(chance, 4)
            kept = Kept(table, text)
            whole, left, right = joined(table, kept.text(), together(table, other), "together")
            low, old, new = kept.put(len(kept.text()), other)
            self.assertEqual(kept.text(), whole)
            self.assertEqual((low, old), (left, together(table, text)[left:]))


class Opened(unittest.TestCase):
    def test_each_sign_of_a_together_form_is_formed(self):
        for chance, table, text in cases(60, 8, 6):
            form = together(table, text)
            self.assertEqual([sign for sign in form if not formed(table, sign)], [])
            for sign in form:
                if table.row(sign) is not None:
                    self.assertEqual(table.rank(full(table, sign)[0]), 0)
            self.assertEqual(sorted(opened(table, form)), sorted(opened(table, text)))


if __name__ == "__main__":
    unittest.main()
