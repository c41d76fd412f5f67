"""Rules: read from a writing, the kinds of bodies, their reach, and the places that are kept."""

import itertools
import unittest

from signforms.errors import Double, FormError, NoKind, NoRow
from signforms.rules import Rules, read_rules

BIG = 10 ** 60 - 1

SAMPLE = "kind vowel 1 5 9\nkeep vowel | edge\nkind dot 46\ncut dot | any\nkeep | dot\nkeep other other | other\n"


class Reading(unittest.TestCase):
    """What the tests of refusals share."""

    def refused(self, writing, error, at):
        for whole in (writing, writing + "\n"):
            with self.subTest(whole), self.assertRaises(FormError) as caught:
                read_rules(whole)
            self.assertIs(type(caught.exception), error)
            self.assertEqual(caught.exception.at, at)

    def no_row(self, row):
        """A row that is none, by itself and among others."""
        self.refused(row, NoRow, 1)
        self.refused(f"kind a 1\nkeep | any\n{row}\ncut a |", NoRow, 3)


class Read(unittest.TestCase):
    """[22]: what is read."""

    def test_an_ordinary_writing(self):
        rules = read_rules(SAMPLE)
        self.assertIs(type(rules), Rules)
        self.assertEqual([rules.kind(sign) for sign in (1, 5, 9, 46, 2, 0, 15)], ["vowel"] * 3 + ["dot"] + ["other"] * 3)
        self.assertEqual(rules.reach(), 2)
        self.assertIs(rules.keeps(["vowel"], ["dot"]), True)
        self.assertIs(rules.keeps(["dot"], ["dot"]), False)
        self.assertIs(rules.keeps(["vowel"], ["vowel"]), False)
        self.assertIs(rules.keeps(["vowel", "other", "other"], ["other", "dot"]), True)

    def test_the_writing_without_signs(self):
        rules = read_rules("")
        self.assertIs(type(rules), Rules)
        self.assertEqual(rules.kind(1), "other")
        self.assertEqual(rules.reach(), 0)
        self.assertIs(rules.keeps(["other"], ["other"]), False)

    def test_the_last_line_feed_may_be_left_out(self):
        for writing in (SAMPLE, "kind a 7\n", "keep |\n", "keep | any\n"):
            whole, shorter = read_rules(writing), read_rules(writing[:-1])
            self.assertEqual([shorter.kind(sign) for sign in range(50)], [whole.kind(sign) for sign in range(50)])
            self.assertEqual(shorter.reach(), whole.reach())
            for left, right in itertools.product(("other", "vowel", "dot", "a"), repeat=2):
                self.assertIs(shorter.keeps([left], [right]), whole.keeps([left], [right]))

    def test_kind_rows(self):
        rules = read_rules(f"kind a 0\nkind abcdefgh 1 2 3\nkind z {BIG} 10 100\n")
        told = [rules.kind(sign) for sign in (0, 1, 2, 3, BIG, 10, 100)]
        self.assertEqual(told, ["a"] + ["abcdefgh"] * 3 + ["z"] * 3)
        for sign in (4, 11, 1000, BIG - 1, 123, 12):
            self.assertEqual(rules.kind(sign), "other")
        self.assertEqual(rules.reach(), 0)

    def test_keep_and_cut_rows_with_every_number_of_words(self):
        for ahead, behind in itertools.product(range(4), repeat=2):
            words = ["any"] * ahead + ["|"] + ["any"] * behind
            for verdict in ("keep", "cut"):
                rules = read_rules(" ".join([verdict] + words))
                self.assertEqual(rules.reach(), max(ahead, behind))
                self.assertIs(rules.keeps(["other"] * 3, ["other"] * 3), verdict == "keep")

    def test_words_that_rows_begin_with_may_be_kinds(self):
        rules = read_rules("kind kind 1\nkind keep 2\nkind cut 3\nkeep keep | kind\ncut kind | cut\nkeep any | any\n")
        self.assertEqual([rules.kind(sign) for sign in (1, 2, 3)], ["kind", "keep", "cut"])
        self.assertIs(rules.keeps(["keep"], ["kind"]), True)
        self.assertIs(rules.keeps(["kind"], ["cut"]), False)

    def test_words_of_one_to_eight_letters(self):
        for word in ("a", "z", "az", "abcdefgh", "stuvwxyz", "ijklmnop", "qr"):
            rules = read_rules(f"kind {word} 5\nkeep {word} | {word}")
            self.assertEqual(rules.kind(5), word)
            self.assertIs(rules.keeps([word], [word]), True)
            self.assertIs(rules.keeps([word], ["other"]), False)

    def test_a_kind_row_behind_the_row_that_names_it(self):
        rules = read_rules("keep late | any\nkeep any | late\nkind late 8\n")
        self.assertEqual(rules.kind(8), "late")
        self.assertIs(rules.keeps(["late"], ["other"]), True)
        self.assertIs(rules.keeps(["other"], ["late"]), True)
        self.assertIs(rules.keeps(["other"], ["other"]), False)

    def test_thirty_rows_and_thirty_signs(self):
        signs = " ".join(str(100 + k) for k in range(30))
        rows = [f"kind first {signs}"] + [f"kind {'abcdefghijklmn'[k]} {k}" for k in range(14)]
        rows += [f"keep {'abcdefghijklmn'[k]} | first" for k in range(14)] + ["cut |"]
        rules = read_rules("\n".join(rows))
        self.assertEqual(len(rows), 30)
        self.assertEqual({rules.kind(100 + k) for k in range(30)}, {"first"})
        self.assertEqual([rules.kind(k) for k in range(15)], list("abcdefghijklmn") + ["other"])
        self.assertIs(rules.keeps(["n"], ["first"]), True)

    def test_somewhat_more_is_not_refused(self):
        signs = " ".join(str(k) for k in range(40))
        rules = read_rules(f"kind many {signs}\n" + "keep many |\n" * 40)
        self.assertEqual(rules.kind(39), "many")
        self.assertIs(rules.keeps(["many"], ["other"]), True)


class NoRows(Reading):
    """[22]: rows that are none."""

    def test_a_row_of_no_sort(self):
        for row in ("kinds a 1", "Kind a 1", "KEEP |", "Cut |", "keeps | any", "a", "|", "any | any", "mark 1 2", "1 is 2"):
            self.no_row(row)
        for row in ("keep", "cut", "kind", "shut 5", "a 1", "1", "| keep", "kind | a", "k"):
            self.no_row(row)

    def test_an_empty_row(self):
        self.refused("\n", NoRow, 1)
        self.refused("\nkeep |", NoRow, 1)
        self.refused("keep |\n\ncut |", NoRow, 2)
        self.refused("keep |\n\n", NoRow, 2)
        self.refused("kind a 1\nkeep |\n\n", NoRow, 3)

    def test_a_blank_too_many_or_too_few(self):
        rows = ["kind a 1 2", "keep any | any", "cut |", "keep any any | edge", "keep | any", "cut any |"]
        for row in rows:
            self.no_row(" " + row)
            self.no_row(row + " ")
            for k, sign in enumerate(row):
                if sign == " ":
                    self.no_row(row[:k] + " " + row[k:])
                    self.no_row(row[:k] + "\t" + row[k + 1:])
        for row in ("keep|any", "keep |any", "keep| any", "keepany |", "kinda 1", "cut|", "keep any|", " ", "  ", "\t"):
            self.no_row(row)

    def test_a_tab(self):
        for row in ("\tkeep |", "keep |\t", "kind a\t1", "kind a 1\t", "keep any\tany |"):
            self.no_row(row)

    def test_words_that_are_none(self):
        for word in ("abcdefghi", "A", "aB", "Any", "EDGE", "a1", "1", "0", "a-b", "a_b", "a.", "*", "abcdefgH", "{", "`"):
            self.no_row(f"kind {word} 9")
            self.no_row(f"keep {word} | any")
            self.no_row(f"keep any | {word}")
            self.no_row(f"cut any any {word} | any")
            self.no_row(f"cut | any {word}")

    def test_signs_that_are_none(self):
        for sign in ("00", "01", "-1", "+1", "1.", "1_0", "a", "b", "", "1" + "0" * 60, "9" * 61, "0x1", "1,2", "0" * 61):
            self.no_row(f"kind b {sign}")
            self.no_row(f"kind b 2 {sign}")
            self.no_row(f"kind b {sign} 3")
        self.no_row("kind b " + "9" * 5000)

    def test_a_sign_of_sixty_figures_is_one(self):
        self.assertEqual(read_rules(f"kind b {BIG}").kind(BIG), "b")
        self.assertEqual(read_rules("kind b 0").kind(0), "b")

    def test_a_kind_without_signs(self):
        self.no_row("kind b")
        self.no_row("kind")
        self.no_row("kind 5")
        self.no_row("kind 5 6")

    def test_a_kind_of_two_words(self):
        self.no_row("kind b c 5")
        self.no_row("kind b 5 c")

    def test_four_words_on_a_side(self):
        self.no_row("keep any any any any | any")
        self.no_row("keep any | any any any any")
        self.no_row("cut any any any any |")
        self.no_row("cut | edge edge edge edge")
        self.no_row("keep any any any any any | any any any any any")

    def test_no_bar_or_two(self):
        for row in ("keep any", "cut any any", "keep | |", "keep || any", "cut | any |", "keep any | any | any", "cut ||"):
            self.no_row(row)
        for row in ("keep any any any any any any", "keep / any", "keep any ! edge", "kind b | 5", "kind | 5"):
            self.no_row(row)

    def test_the_first_such_row(self):
        self.refused("keep |\nkeep\ncut", NoRow, 2)
        self.refused("keep", NoRow, 1)
        self.refused("keep |\n" * 29 + "cut", NoRow, 30)


class Doubles(Reading):
    """[22]: words and signs told again."""

    def test_a_word_that_means_something_else(self):
        for word in ("any", "edge", "other"):
            self.refused(f"kind {word} 5", Double, 1)
            self.refused(f"keep any | edge\nkind a 5\nkind {word} 6", Double, 3)

    def test_a_word_again(self):
        self.refused("kind a 1\nkind a 2", Double, 2)
        self.refused("kind a 1\nkind b 2\nkeep | a\nkind a 3", Double, 4)
        self.refused("kind a 1\nkind a 1", Double, 2)

    def test_a_sign_again_in_its_row(self):
        self.refused("kind a 1 1", Double, 1)
        self.refused("kind a 1\nkind b 5 6 7 5", Double, 2)
        self.refused(f"kind a {BIG} 0 {BIG}", Double, 1)

    def test_a_sign_again_in_another_row(self):
        self.refused("kind a 1\nkind b 1", Double, 2)
        self.refused("kind a 1 2 3\nkeep |\nkind b 4\nkind c 5 3", Double, 4)
        self.refused("kind a 0\nkind b 0", Double, 2)

    def test_the_first_such_row(self):
        self.refused("kind a 1\nkind b 2\nkind b 3\nkind a 4\nkind any 1", Double, 3)
        self.refused("kind a 1 1\nkind a 2", Double, 1)
        self.refused("kind edge 1\nkind other 2", Double, 1)

    def test_words_of_keep_and_cut_rows_are_not_told_again(self):
        rules = read_rules("keep a a | a\nkind a 1\nkeep a | a\nkeep a | a\ncut any any | any\nkind b 11\n")
        self.assertEqual((rules.kind(1), rules.kind(11)), ("a", "b"))


class NoKinds(Reading):
    """[22]: words of keep and cut rows that are none."""

    def test_ahead_of_the_bar(self):
        self.refused("keep a |", NoKind, 1)
        self.refused("kind a 1\nkeep a | a\ncut a b a |", NoKind, 3)
        self.refused("cut b any any |", NoKind, 1)

    def test_behind_the_bar(self):
        self.refused("keep | a", NoKind, 1)
        self.refused("kind a 1\ncut a | a\nkeep any any any | any any b", NoKind, 3)
        self.refused("kind b 1\nkeep b | c", NoKind, 2)

    def test_words_that_rows_begin_with(self):
        for word in ("kind", "keep", "cut"):
            self.refused(f"keep {word} |", NoKind, 1)
            self.refused(f"kind a 1\ncut | {word}", NoKind, 2)

    def test_a_part_of_a_kind_and_more_than_one(self):
        self.refused("kind ab 1\nkeep a |", NoKind, 2)
        self.refused("kind ab 1\nkeep abc |", NoKind, 2)
        self.refused("kind ab 1\nkeep | an", NoKind, 2)

    def test_the_first_such_row(self):
        self.refused("keep | any\nkeep | a\ncut b |\nkind c 1", NoKind, 2)

    def test_the_words_that_are_always_there(self):
        rules = read_rules("keep any edge other | any edge other")
        self.assertEqual(rules.reach(), 3)


class WhichAhead(Reading):
    """[22]: which refusal is told ahead of which."""

    def test_no_row_ahead_of_all(self):
        self.refused("kind any 1\nkeep", NoRow, 2)
        self.refused("keep a |\nkeep", NoRow, 2)
        self.refused("keep a |\nkind b 1\nkind b 1\nkeep | |", NoRow, 4)
        self.refused("kind a 1 1 01", NoRow, 1)
        self.refused("keep a b | Any", NoRow, 1)
        self.refused("kind a 1 1\n\nkeep b |", NoRow, 2)

    def test_double_ahead_of_no_kind(self):
        self.refused("keep a |\nkind b 1 1", Double, 2)
        self.refused("keep a |\nkeep | a\nkind b 1\nkind other 2", Double, 4)
        self.refused("keep late |\nkind a 1\nkind late 1", Double, 3)


class Reach(unittest.TestCase):
    """[23]: the greatest number of words on one side."""

    def test_none(self):
        self.assertEqual(read_rules("").reach(), 0)
        self.assertEqual(read_rules("kind a 1 2 3 4 5").reach(), 0)
        self.assertEqual(read_rules("keep |").reach(), 0)
        self.assertEqual(read_rules("keep |\ncut |\nkind a 1").reach(), 0)

    def test_one_to_three(self):
        for number in (1, 2, 3):
            words = " ".join(["any"] * number)
            for row in (f"keep {words} |", f"keep | {words}", f"cut {words} |", f"cut | {words}"):
                self.assertEqual(read_rules(row).reach(), number)
                self.assertEqual(read_rules(f"keep |\n{row}\nkeep any | edge").reach(), number)
            self.assertEqual(read_rules(f"keep {words} | {words}").reach(), number)

    def test_the_greater_side_of_any_row(self):
        self.assertEqual(read_rules("keep any any | any").reach(), 2)
        self.assertEqual(read_rules("keep any | any any any").reach(), 3)
        self.assertEqual(read_rules("keep any any |\ncut any any any |\nkeep | any").reach(), 3)

    def test_a_whole_number(self):
        self.assertIs(type(read_rules("").reach()), int)
        self.assertIs(type(read_rules("keep any |").reach()), int)


def side_fits(words, kinds):
    """[23], word by word; the nearest one first on both."""
    for k, word in enumerate(words):
        if word == "edge":
            if k < len(kinds):
                return False
        elif k >= len(kinds):
            return False
        elif word != "any" and word != kinds[k]:
            return False
    return True


class Keeps(unittest.TestCase):
    """[23]: whether a place is kept."""

    def told(self, writing, kept, cut):
        rules = read_rules("kind a 1\nkind b 2\n" + writing)
        for answer, places in ((True, kept), (False, cut)):
            for place in places:
                ahead, behind = place.split("|")
                left, right = ahead.split(), behind.split()
                with self.subTest(writing, place=place):
                    self.assertIs(rules.keeps(left, right), answer)
                    self.assertEqual((left, right), (ahead.split(), behind.split()))

    def test_where_none_fits(self):
        self.told("", [], ["a | b", "other | other", "a b a | b a b"])
        self.told("keep a | b", [], ["b | a", "a | a", "b | b", "other | b", "a b | a b"])

    def test_no_words(self):
        self.told("keep |", ["a | b", "other | other", "a b | b a"], [])
        self.told("cut |", [], ["a | b", "other | other"])

    def test_a_kind_on_either_side(self):
        self.told("keep a |", ["a | b", "b a | other"], ["b | a", "a b | a", "other | a"])
        self.told("keep | a", ["b | a", "other | a b"], ["a | b", "a | b a", "a | other"])
        self.told("keep a | b", ["a | b", "b a | b a"], ["b | a", "a b | b", "a | a b"])

    def test_any(self):
        self.told("keep any | any", ["a | b", "other | other", "b | other"], [])
        self.told("keep any any |", ["a b | a", "b other a | b"], ["a | b", "b | b b"])
        self.told("keep | any any any", ["a | b b b", "a | a b other a"], ["a | b b", "a a a | b"])

    def test_other(self):
        self.told("keep other | other", ["other | other", "a other | other b"], ["a | other", "other | b", "a | b"])

    def test_edge(self):
        self.told("keep edge a |", ["a | b"], ["b a | b", "a a | b", "b | a", "a b | a"])
        self.told("keep | b edge", ["a | b", "b a | b"], ["a | b b", "a | b other", "a | a"])
        self.told("keep edge any | any edge", ["a | b", "b | other"], ["a a | b", "a | b b", "a a | b b"])

    def test_edges_beyond_the_edge(self):
        self.told("keep edge edge a |", ["a | b"], ["a a | b", "b | a", "b a a | b"])
        self.told("keep | any edge edge", ["a | b", "a a a | other"], ["a | b b", "a | b b b", "a | b b b b"])
        self.told("keep edge a b |", ["a b | a"], ["a a b | a", "b | a", "a | b", "b b | a"])

    def test_any_is_no_edge(self):
        self.told("keep any a |", ["b a | a"], ["a | a"])
        self.told("keep | a any any", ["a | a b a"], ["a | a", "a | a b"])
        self.told("keep other a |", ["other a | a"], ["a | a", "a a | a"])
        self.told("keep any edge a |", [], ["a | a", "a a | a", "a a a | a"])

    def test_an_edge_next_to_the_place(self):
        self.told("keep edge |", [], ["a | a", "a a a | a"])
        self.told("keep | edge", [], ["a | a", "a | a a a"])
        self.told("keep a edge |", [], ["a | a", "a a | a"])
        self.told("keep | edge a", [], ["a | a", "a | a a"])

    def test_the_order_of_words(self):
        self.told("keep a b |", ["a b | a", "b a b | a"], ["b a | a", "a a b b | a", "a a | b"])
        self.told("keep | a b", ["a | a b", "b | a b a"], ["a | b a", "a | a a b"])
        self.told("keep a b other | b a other", ["a b other | b a other"], ["other b a | b a other", "a b other | other a b"])

    def test_the_first_row_that_fits(self):
        self.told("cut a | b\nkeep any | any", ["b | a", "a | a", "b | b"], ["a | b", "b a | b a"])
        self.told("keep any | any\ncut a | b", ["a | b", "b | a"], [])
        self.told("keep a | b\ncut a |\nkeep |", ["a | b", "b | b", "other | a"], ["a | a", "a | other"])
        self.told("cut a |\ncut | a\nkeep b | b\ncut any | any", ["b | b"], ["a | b", "b | a", "other | other"])

    def test_both_sides_have_to_fit(self):
        self.told("keep a b | b a", ["a b | b a"], ["b b | b a", "a b | b b", "a b | b", "b | b a", "a a | b a"])

    def test_far_from_the_edges(self):
        many = " ".join(["other"] * 2000)
        self.told("keep other other other | other", [f"{many} | {many}"], [f"other other | {many}"])
        self.told("keep edge other | other edge", ["other | other"], [f"{many} | {many}", f"other | {many}"])

    def test_every_side_of_up_to_two_words(self):
        words = ("any", "edge", "other", "a", "b")
        sides = [side for length in range(3) for side in itertools.product(words, repeat=length)]
        kinds = [found for length in (1, 2, 3) for found in itertools.product(("a", "b", "other"), repeat=length)]
        for side in sides:
            ahead = read_rules(f"kind a 1\nkind b 2\n{' '.join(['keep', *side, '|'])}")
            behind = read_rules(f"kind a 1\nkind b 2\n{' '.join(['keep', '|', *side])}")
            for found in kinds:
                self.assertIs(ahead.keeps(list(found), ["a"]), side_fits(side[::-1], found[::-1]))
                self.assertIs(behind.keeps(["a"], list(found)), side_fits(side, found))

    def test_every_side_of_three_words(self):
        words = ("any", "edge", "other", "a")
        kinds = [found for length in range(1, 5) for found in itertools.product(("a", "other"), repeat=length)]
        for side in itertools.product(words, repeat=3):
            rules = read_rules(f"kind a 1\n{' '.join(['keep', *side, '|', *side])}")
            for left, right in zip(kinds, kinds[7:] + kinds[:7]):
                expected = side_fits(side[::-1], left[::-1]) and side_fits(side, right)
                self.assertIs(rules.keeps(list(left), list(right)), expected)


class Asked(unittest.TestCase):
    """[2]: what is handed over is only looked at, and the same asked of the same is answered alike."""

    def test_lists_of_kinds_stay_as_they_were(self):
        rules = read_rules(SAMPLE)
        for left, right in ((["vowel"], ["dot"]), (["dot", "other", "other"], ["other"] * 4), (["vowel"], ["vowel", "dot"])):
            before = list(left), list(right)
            rules.keeps(left, right)
            self.assertEqual((left, right), before)

    def test_lists_changed_afterwards_change_nothing(self):
        rules = read_rules(SAMPLE)
        left, right = ["vowel"], ["dot"]
        self.assertIs(rules.keeps(left, right), True)
        left[0], right[0] = "dot", "vowel"
        self.assertIs(rules.keeps(left, right), False)
        left.clear()
        right.extend(["other", "other"])
        self.assertIs(rules.keeps(["vowel"], ["dot"]), True)

    def test_one_list_for_both_sides(self):
        rules = read_rules("kind a 1\nkeep a other | a other\n")
        kinds = ["a", "other"]
        self.assertIs(rules.keeps(kinds, kinds), True)
        self.assertEqual(kinds, ["a", "other"])

    def test_asked_again(self):
        rules = read_rules(SAMPLE)
        for time in range(3):
            self.assertEqual((rules.kind(5), rules.kind(6), rules.reach()), ("vowel", "other", 2))
            self.assertIs(rules.keeps(["vowel"], ["dot"]), True)
            self.assertIs(rules.keeps(["dot"], ["other"]), False)

    def test_two_rules_in_turn(self):
        one = read_rules("kind a 1\nkind b 2\nkeep a | b\n")
        other = read_rules("kind b 1\nkind a 2\nkeep b any | a\n")
        bare = read_rules("")
        for time in range(3):
            self.assertEqual((one.kind(1), other.kind(1), bare.kind(1)), ("a", "b", "other"))
            self.assertEqual((one.reach(), other.reach(), bare.reach()), (1, 2, 0))
            self.assertEqual((one.keeps(["a"], ["b"]), other.keeps(["a"], ["b"])), (True, False))
            self.assertEqual((one.keeps(["b", "a"], ["a"]), other.keeps(["b", "a"], ["a"])), (False, True))
            self.assertIs(bare.keeps(["a"], ["b"]), False)

    def test_a_refusal_leaves_nothing_behind(self):
        for writing in ("kind a 1\nkind a 2", "kind a 1\nkeep b |", "kind a 1\nkeep"):
            with self.assertRaises(FormError):
                read_rules(writing)
            self.assertEqual(read_rules("kind b 1\nkeep b |").kind(1), "b")


if __name__ == "__main__":
    unittest.main()
