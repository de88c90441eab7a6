"""The refusals: what stands under what, what each is made of, and the faults' words."""

import unittest

from momentloom.errors import (
    Dry, Fault, Full, Great, Late, MomentError, NoMark, NoModel, NoRoom, NoText, Nought, Span, TooLate)

STRAIGHT_UNDER_MOMENT_ERROR = (Fault, NoMark, TooLate, NoText, NoRoom, NoModel)
STRAIGHT_UNDER_FAULT = (Nought, Great, Full, Dry, Span, Late)
WORDS = (
    (Fault, "fault"), (Nought, "nought"), (Great, "great"), (Full, "full"),
    (Dry, "dry"), (Span, "span"), (Late, "late"))
MADE_OF_TEXT = (MomentError, Fault, NoMark, TooLate, NoRoom, NoModel) + STRAIGHT_UNDER_FAULT


class Standing(unittest.TestCase):
    def test_any_refusal_is_a_value_error(self):
        self.assertEqual(MomentError.__bases__, (ValueError,))

    def test_straight_under_moment_error(self):
        for kind in STRAIGHT_UNDER_MOMENT_ERROR:
            with self.subTest(kind=kind.__name__):
                self.assertEqual(kind.__bases__, (MomentError,))

    def test_straight_under_fault(self):
        for kind in STRAIGHT_UNDER_FAULT:
            with self.subTest(kind=kind.__name__):
                self.assertEqual(kind.__bases__, (Fault,))

    def test_none_under_another(self):
        kinds = STRAIGHT_UNDER_MOMENT_ERROR + STRAIGHT_UNDER_FAULT
        for kind in kinds:
            for other in kinds:
                if other not in (kind, Fault):
                    with self.subTest(kind=kind.__name__, other=other.__name__):
                        self.assertFalse(issubclass(kind, other))

    def test_taken_as_any_refusal(self):
        for kind in MADE_OF_TEXT:
            with self.subTest(kind=kind.__name__):
                with self.assertRaises(MomentError):
                    raise kind()


class Making(unittest.TestCase):
    def test_made_of_nothing(self):
        for kind in MADE_OF_TEXT:
            with self.subTest(kind=kind.__name__):
                self.assertIs(type(kind()), kind)

    def test_made_of_one_text(self):
        for kind in MADE_OF_TEXT:
            for text in ("", "some words"):
                with self.subTest(kind=kind.__name__, text=text):
                    self.assertIs(type(kind(text)), kind)

    def test_no_text_is_made_of_its_line(self):
        for line in (1, 2, 200001):
            self.assertEqual(NoText(line).line, line)

    def test_no_text_keeps_its_line_when_raised(self):
        with self.assertRaises(NoText) as caught:
            raise NoText(7)
        self.assertEqual(caught.exception.line, 7)


class Words(unittest.TestCase):
    def test_words_of_those_made_of_nothing(self):
        for kind, word in WORDS:
            with self.subTest(kind=kind.__name__):
                self.assertEqual(kind().word(), word)

    def test_words_of_those_made_of_a_text(self):
        for kind, word in WORDS:
            with self.subTest(kind=kind.__name__):
                self.assertEqual(kind("other").word(), word)


if __name__ == "__main__":
    unittest.main()
