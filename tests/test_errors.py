import unittest

from piecelay import errors

PLAIN = ["NoSize", "NoTree", "NoArgs", "NoCode", "NoSteps", "Late", "NoPiece", "NoSet", "NoCover", "NoParts",
         "NoName", "Taken"]


class ErrorsTest(unittest.TestCase):
    def test_any_refusal_is_a_value_error(self):
        self.assertEqual(errors.PieceError.__bases__, (ValueError,))

    def test_each_stands_straight_under_piece_error(self):
        for name in PLAIN + ["Fault", "Broken"]:
            with self.subTest(name):
                self.assertEqual(getattr(errors, name).__bases__, (errors.PieceError,))

    def test_each_can_be_raised_with_words(self):
        for name in PLAIN + ["PieceError"]:
            with self.subTest(name):
                with self.assertRaises(errors.PieceError) as caught:
                    raise getattr(errors, name)("words")
                self.assertEqual(str(caught.exception), "words")

    def test_fault_has_its_place(self):
        self.assertEqual(errors.Fault(17).place, 17)
        self.assertEqual(errors.Fault(0).place, 0)

    def test_broken_has_its_trial(self):
        trial = ((0,), (), (), (0, 0, 0, 0))
        self.assertEqual(errors.Broken(trial).trial, trial)
