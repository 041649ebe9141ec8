"""The refusals' classes and fields."""

import copy
import inspect
import unittest

from roomward import errors

PLAIN = ("NoName", "NoDeed", "NoRoom", "TwiceTold", "TooMany", "NoRule", "NoRow", "NoHold", "NoHolder", "FreeDeed",
         "NotNow")
WITH_FIELDS = ("NoWarden", "NoText", "NoBook")


class TheClasses(unittest.TestCase):
    def test_ward_error_stands_straight_under_value_error(self):
        self.assertEqual(errors.WardError.__bases__, (ValueError,))

    def test_each_stands_straight_under_ward_error(self):
        for name in PLAIN + WITH_FIELDS:
            with self.subTest(name=name):
                self.assertEqual(getattr(errors, name).__bases__, (errors.WardError,))

    def test_there_are_no_others(self):
        found = [name for name, kind in vars(errors).items() if inspect.isclass(kind)]
        self.assertEqual(sorted(found), sorted(PLAIN + WITH_FIELDS + ("WardError",)))

    def test_plain_ones_are_raised_with_words_or_without(self):
        for name in PLAIN + ("WardError",):
            for parts in ((), ("some words",)):
                with self.subTest(name=name, parts=parts), self.assertRaises(errors.WardError) as caught:
                    raise getattr(errors, name)(*parts)
                self.assertIs(type(caught.exception), getattr(errors, name))

    def test_none_is_taken_for_another(self):
        for name in PLAIN:
            for other in PLAIN + WITH_FIELDS:
                if name != other:
                    self.assertNotIsInstance(getattr(errors, name)(), getattr(errors, other))


class TheFields(unittest.TestCase):
    def test_no_warden_has_a_word_and_a_row(self):
        error = errors.NoWarden("broken", ["a", "b"])
        self.assertEqual((error.word, error.row), ("broken", ["a", "b"]))
        self.assertIsInstance(error.row, list)
        error = errors.NoWarden("shut", [])
        self.assertEqual((error.word, error.row), ("shut", []))

    def test_no_warden_by_the_arguments_names(self):
        error = errors.NoWarden(word="shut", row=["a"])
        self.assertEqual((error.word, error.row), ("shut", ["a"]))

    def test_no_warden_needs_both(self):
        with self.assertRaises(TypeError):
            errors.NoWarden("shut")

    def test_no_warden_does_not_keep_the_list(self):
        row = ["a"]
        error = errors.NoWarden("broken", row)
        words = str(error)
        row.append("b")
        self.assertEqual(error.row, ["a"])
        self.assertEqual(str(error), words)
        error.row.append("c")
        self.assertEqual(row, ["a", "b"])
        self.assertEqual(str(error), words)

    def test_no_text_and_no_book_have_a_row(self):
        for kind in (errors.NoText, errors.NoBook):
            for number in (0, 1, 200):
                self.assertEqual(kind(number).row, number)
                self.assertEqual(kind(row=number).row, number)
            with self.assertRaises(TypeError):
                kind()

    def test_a_copy_has_the_fields_too(self):
        self.assertEqual(copy.copy(errors.NoWarden("shut", ["a"])).row, ["a"])
        self.assertEqual(copy.copy(errors.NoBook(3)).row, 3)
        self.assertEqual(copy.copy(errors.NoText(4)).row, 4)


if __name__ == "__main__":
    unittest.main()
