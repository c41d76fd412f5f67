"""The refusals, as the interface tells them."""

import unittest

from signforms import errors

WITH_FIELDS = {
    "NoRow": ("at",),
    "Twice": ("sign",),
    "NoPair": ("sign",),
    "Same": ("one", "other"),
    "Ring": ("signs",),
    "TooLong": ("sign",),
    "Unlike": ("at",),
    "NotFormed": ("which",),
    "Double": ("at",),
    "NoKind": ("at",),
}
WITHOUT_FIELDS = ("NoStep", "TooMany", "Nothing", "NoPlace", "NoUndo")


def values_for(fields):
    return [[5, 6, 7] if name == "signs" else 40 + k for k, name in enumerate(fields)]


class Classes(unittest.TestCase):
    def test_there_are_fifteen(self):
        self.assertEqual(len(WITH_FIELDS) + len(WITHOUT_FIELDS), 15)
        kept = [name for name, thing in vars(errors).items() if isinstance(thing, type)]
        self.assertEqual(sorted(kept), sorted(["FormError", *WITH_FIELDS, *WITHOUT_FIELDS]))

    def test_form_error_stands_straight_under_value_error(self):
        self.assertEqual(errors.FormError.__bases__, (ValueError,))

    def test_each_stands_straight_under_form_error_alone(self):
        for name in [*WITH_FIELDS, *WITHOUT_FIELDS]:
            with self.subTest(name):
                self.assertEqual(getattr(errors, name).__bases__, (errors.FormError,))


class Fields(unittest.TestCase):
    def test_made_of_its_fields(self):
        for name, fields in WITH_FIELDS.items():
            with self.subTest(name):
                values = values_for(fields)
                made = getattr(errors, name)(*values)
                self.assertEqual([getattr(made, field) for field in fields], values)
                named = getattr(errors, name)(**dict(zip(fields, values)))
                self.assertEqual([getattr(named, field) for field in fields], values)

    def test_not_made_of_more_or_less_than_its_fields(self):
        for name, fields in WITH_FIELDS.items():
            with self.subTest(name):
                values = values_for(fields)
                with self.assertRaises(TypeError):
                    getattr(errors, name)(*values, 1)
                with self.assertRaises(TypeError):
                    getattr(errors, name)(*values[1:])

    def test_the_others_are_made_of_words_or_of_nothing(self):
        for name in WITHOUT_FIELDS:
            with self.subTest(name):
                self.assertEqual(str(getattr(errors, name)("some words")), "some words")
                self.assertIsInstance(getattr(errors, name)(), errors.FormError)

    def test_raised_and_taken_as_form_error(self):
        for name, fields in WITH_FIELDS.items():
            with self.subTest(name), self.assertRaises(errors.FormError):
                raise getattr(errors, name)(*values_for(fields))
        for name in WITHOUT_FIELDS:
            with self.subTest(name), self.assertRaises(errors.FormError):
                raise getattr(errors, name)

    def test_signs_of_sixty_figures(self):
        sign = 10 ** 60 - 1
        self.assertEqual(errors.Twice(sign).sign, sign)
        self.assertEqual(errors.Ring([sign, sign - 1]).signs, [sign, sign - 1])
        self.assertIn(str(sign), str(errors.TooLong(sign)))


class RingList(unittest.TestCase):
    def test_the_list_handed_in_is_only_looked_at(self):
        signs = [3, 4]
        errors.Ring(signs)
        self.assertEqual(signs, [3, 4])

    def test_what_is_done_afterwards_changes_nothing(self):
        for change in (list.clear, lambda signs: signs.append(9), list.reverse):
            signs = [3, 4]
            made = errors.Ring(signs)
            words = (str(made), repr(made))
            change(signs)
            self.assertEqual(made.signs, [3, 4])
            self.assertEqual((str(made), repr(made)), words)

    def test_two_made_of_one_list_share_nothing(self):
        signs = [3, 4]
        one = errors.Ring(signs)
        other = errors.Ring(signs)
        one.signs.append(5)
        self.assertEqual(other.signs, [3, 4])
        self.assertEqual(signs, [3, 4])


if __name__ == "__main__":
    unittest.main()
