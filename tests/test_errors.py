import unittest

from thinnet import errors
from thinnet.errors import NoLine, NoPaper, NoPlace, NoRow, NoTie, ThinError, TooMany, Twice


class Bases(unittest.TestCase):
    def test_base_stands_under_value_error(self):
        self.assertEqual(ThinError.__bases__, (ValueError,))

    def test_each_refusal_stands_straight_under_the_base(self):
        for refusal in (NoPaper, NoLine, TooMany, Twice, NoPlace, NoTie, NoRow):
            self.assertEqual(refusal.__bases__, (ThinError,), refusal)

    def test_all_lie_in_the_module(self):
        for name in ("ThinError", "NoPaper", "NoLine", "TooMany", "Twice", "NoPlace", "NoTie", "NoRow"):
            self.assertEqual(getattr(errors, name).__name__, name)


class Fields(unittest.TestCase):
    def test_no_paper_keeps_word_and_number(self):
        for word, number in (("shape", 0), ("way", 59)):
            with self.assertRaises(ThinError) as caught:
                raise NoPaper(word, number)
            self.assertEqual((caught.exception.word, caught.exception.number), (word, number))

    def test_no_line_keeps_row_and_word(self):
        with self.assertRaises(ValueError) as caught:
            raise NoLine(3, 2)
        self.assertEqual((caught.exception.row, caught.exception.word), (3, 2))

    def test_fields_are_each_object_s_own(self):
        one = NoPaper("far", 1)
        other = NoPaper("fair", 2)
        self.assertEqual((one.word, one.number, other.word, other.number), ("far", 1, "fair", 2))

    def test_the_others_are_made_of_a_text(self):
        for refusal in (TooMany, Twice, NoPlace, NoTie, NoRow):
            for text in ("", "some words"):
                with self.assertRaises(refusal):
                    raise refusal(text)


if __name__ == "__main__":
    unittest.main()
