import unittest

from apart.errors import ApartError, NoName, NoProgram, NoRow, NoTelling, NoText, NoValue

REFUSALS = (NoTelling, NoValue, NoProgram, NoRow, NoName, NoText)


class ErrorTests(unittest.TestCase):
    def test_any_refusal_is_a_value_error(self):
        self.assertTrue(issubclass(ApartError, ValueError))

    def test_each_refusal_stands_under_apart_error(self):
        for refusal in REFUSALS:
            with self.subTest(refusal=refusal.__name__):
                self.assertTrue(issubclass(refusal, ApartError))
                self.assertIsNot(refusal, ApartError)

    def test_no_refusal_stands_under_another_one(self):
        for one in REFUSALS:
            for other in REFUSALS:
                if one is not other:
                    with self.subTest(one=one.__name__, other=other.__name__):
                        self.assertFalse(issubclass(one, other))

    def test_there_are_six_of_them(self):
        self.assertEqual(len(set(REFUSALS)), 6)

    def test_no_text_has_its_row(self):
        for row in (0, 1, 7, 4000):
            with self.subTest(row=row):
                self.assertEqual(NoText(row).row, row)

    def test_each_no_text_has_a_row_of_its_own(self):
        one = NoText(3)
        other = NoText(5)
        self.assertEqual((one.row, other.row), (3, 5))

    def test_a_raised_no_text_is_taken_as_apart_error_with_its_row(self):
        with self.assertRaises(ApartError) as caught:
            raise NoText(2)
        self.assertEqual(caught.exception.row, 2)


if __name__ == "__main__":
    unittest.main()
