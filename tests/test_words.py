import inspect
import unittest

from helpers import GrowsCase, all_rows
from stillgrows import words
from stillgrows.errors import InvalidGroup, InvalidSigns, UnknownSign


class TestChecks(GrowsCase):
    def test_alphabets(self):
        for signs in ("a", "z", "ab", "acx", "abcd", "wxyz"):
            self.assertEqual(words.check_signs(signs), signs)

    def test_no_alphabets(self):
        for signs in ("", "ba", "aa", "abb", "abcde", "aB", "A", "a b", " ", "a1", "-", "~", "acb", "abca"):
            self.refuses(InvalidSigns, signs, words.check_signs, signs)

    def test_groups(self):
        for group in ("a", "zz", "ba", "abcdef", "zyxwvutsrqponmlkjihgfedcba"):
            self.assertEqual(words.check_group(group), group)

    def test_no_groups(self):
        for group in ("", " ", "A", "a b", "ab ", "a1", "-", "a~", "ab{"):
            self.refuses(InvalidGroup, group, words.check_group, group)

    def test_rows(self):
        for row in ("", "a", "ba", "bbaab"):
            self.assertEqual(words.check_row(row, "ab"), row)

    def test_the_first_unknown_sign(self):
        for row, sign in (("abcd", "c"), ("dcab", "d"), ("ab ", " "), ("~a", "~"), ("Ab", "A")):
            self.refuses(UnknownSign, sign, words.check_row, row, "ab")


class TestRows(GrowsCase):
    def test_turned(self):
        for row, wanted in (("", ""), ("a", "a"), ("abc", "cba"), ("aab", "baa")):
            self.assertEqual(words.turned(row), wanted)

    def test_renamed(self):
        self.assertEqual(words.renamed("abcab", "ab", "xy"), "xycxy")
        self.assertEqual(words.renamed("", "ab", "xy"), "")
        self.assertEqual(words.renamed("abc", "", ""), "abc")
        self.assertEqual(words.renamed("abc", "z", "a"), "abc")

    def test_renamed_all_at_once(self):
        self.assertEqual(words.renamed("abba", "ab", "ba"), "baab")
        self.assertEqual(words.renamed("abc", "abc", "bca"), "bca")
        self.assertEqual(words.renamed("abc", "ba", "ac"), "cac")

    def test_rows_up_to(self):
        self.assertEqual(list(words.rows_up_to("ab", 0)), [""])
        self.assertEqual(list(words.rows_up_to("ab", 2)), ["", "a", "b", "aa", "ab", "ba", "bb"])
        self.assertEqual(list(words.rows_up_to("z", 3)), ["", "z", "zz", "zzz"])
        self.assertEqual(list(words.rows_up_to("acx", 4)), all_rows("acx", 4))
        self.assertEqual(len(list(words.rows_up_to("abcd", 5))), 1 + 4 + 16 + 64 + 256 + 1024)

    def test_rows_up_to_is_a_generator_that_takes_its_time(self):
        self.assertTrue(inspect.isgeneratorfunction(words.rows_up_to))
        rows = words.rows_up_to("abcd", 200)
        self.assertEqual([next(rows) for _ in range(6)], ["", "a", "b", "c", "d", "aa"])

    def test_row_order(self):
        rows = ["b", "ab", "", "aab", "a", "ba", "aa", "b"]
        self.assertEqual(words.in_row_order(rows), ["", "a", "b", "aa", "ab", "ba", "aab"])
        self.assertEqual(len(rows), 8)


if __name__ == "__main__":
    unittest.main()
