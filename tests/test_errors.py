"""Promise 0.4 and the interface of tienumbers.errors."""

import copy
import unittest

from tienumbers import errors
from tienumbers.errors import (
    NoKind, NoNumber, NoPlace, NoRow, NoShare, NoSquare, NoText, NoWeb, TieError, TooGreat,
)

MADE = [
    (NoPlace, (), {}),
    (NoKind, (), {}),
    (NoSquare, (), {}),
    (NoNumber, (), {}),
    (NoRow, (), {}),
    (NoWeb, (-1,), {"number": -1}),
    (NoShare, (3,), {"number": 3}),
    (NoText, (7,), {"row": 7}),
    (TooGreat, (41, 40), {"many": 41, "most": 40}),
]


class ErrorsTest(unittest.TestCase):
    def test_tie_error_is_straight_under_value_error(self):
        self.assertEqual(TieError.__bases__, (ValueError,))

    def test_each_refusal_is_straight_under_tie_error(self):
        for made, given, fields in MADE:
            with self.subTest(made.__name__):
                self.assertEqual(made.__bases__, (TieError,))

    def test_no_refusal_is_taken_for_another(self):
        for made, given, fields in MADE:
            for other, others_given, others_fields in MADE:
                if other is not made:
                    self.assertNotIsInstance(made(*given), other)

    def test_there_are_no_further_classes(self):
        told = {name for name, value in vars(errors).items() if isinstance(value, type)}
        self.assertEqual(told, {made.__name__ for made, given, fields in MADE} | {"TieError"})

    def test_fields(self):
        for made, given, fields in MADE:
            with self.subTest(made.__name__):
                self.assertEqual(vars(made(*given)), fields)

    def test_fields_go_by_their_names_too(self):
        self.assertEqual(NoWeb(number=5).number, 5)
        self.assertEqual(NoShare(number=5).number, 5)
        self.assertEqual(NoText(row=5).row, 5)
        error = TooGreat(most=7, many=9)
        self.assertEqual((error.many, error.most), (9, 7))

    def test_each_can_be_raised_and_taken_as_a_value_error(self):
        for made, given, fields in MADE:
            for taken in (made, TieError, ValueError):
                with self.assertRaises(taken):
                    raise made(*given)

    def test_a_copy_has_the_same_fields(self):
        for made, given, fields in MADE:
            self.assertEqual(vars(copy.copy(made(*given))), fields)


if __name__ == "__main__":
    unittest.main()
