import unittest

from stillgrows.digits import NO_NUMBER, read_number


class TestDigits(unittest.TestCase):
    def test_numbers(self):
        for word, number in (("0", 0), ("7", 7), ("10", 10), ("999999999", 999999999)):
            self.assertEqual(read_number(word), number)

    def test_no_numbers(self):
        for word in ("", "00", "01", "1000000000", "0000000000", "-1", "+1", "1.0", " 1", "1 ", "a", "1_0", "\u00b2"):
            self.assertEqual(read_number(word), NO_NUMBER)
        self.assertEqual(NO_NUMBER, -1)


if __name__ == "__main__":
    unittest.main()
