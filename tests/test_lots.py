import inspect
import unittest

from helpers import GrowsCase
from stillgrows.errors import InvalidGroup, InvalidText
from stillgrows.lots import Lot
from stillgrows.sayings import Saying


class TestMaking(GrowsCase):
    def test_groups_in_lot_order_without_duplicates(self):
        lot = Lot(["b", "aab", "ab", "b", "ba", "a", "ab"])
        self.same(lot.groups, ("a", "b", "ab", "ba", "aab"))
        self.assertEqual(Lot(("b", "a")).groups, ("a", "b"))
        self.assertEqual(Lot([]).groups, ())
        self.assertEqual(Lot(["abcdef"] * 8).groups, ("abcdef",))

    def test_of(self):
        self.assertEqual(Lot.of("b", "a", "b"), Lot(["a", "b"]))
        self.same(Lot.of().groups, ())

    def test_the_first_entry_that_is_no_group(self):
        for groups, wrong in ((["a", "B", ""], "B"), (["", "a b"], ""), (["b", "a", "a~"], "a~"), (["a "], "a ")):
            self.refuses(InvalidGroup, wrong, Lot, groups)
            self.refuses(InvalidGroup, wrong, Lot, tuple(groups))
            self.refuses(InvalidGroup, wrong, Lot.of, *groups)

    def test_lists_are_copied(self):
        groups = ["b", "a"]
        lot = Lot(groups)
        self.assertEqual(groups, ["b", "a"])
        groups.append("c")
        self.assertEqual(lot.groups, ("a", "b"))


class TestTexts(GrowsCase):
    def test_texts(self):
        self.assertEqual(Lot.of("ba", "b", "aa").text(), "b aa ba")
        self.assertEqual(Lot.of("abc").text(), "abc")
        self.assertEqual(Lot.of().text(), "-")

    def test_read(self):
        self.assertEqual(Lot.read("-"), Lot.of())
        self.assertEqual(Lot.read("b aa ba"), Lot.of("b", "aa", "ba"))
        self.assertEqual(Lot.read("ba b ba aa b").groups, ("b", "aa", "ba"))

    def test_texts_that_are_refused(self):
        for text in ("", " ", "a ", " a", "a  b", "- a", "a -", "--", "- ", "a,b", "A", "a b1", "a\tb"):
            self.refuses(InvalidText, text, Lot.read, text)


class TestParts(GrowsCase):
    def test_letters_and_longest(self):
        lot = Lot.of("ca", "ab", "z", "aaca")
        self.same(lot.letters, "abcz")
        self.same(lot.longest, 4)
        self.same(Lot.of().letters, "")
        self.same(Lot.of().longest, 0)

    def test_turned(self):
        self.assertEqual(Lot.of("ab", "ba", "abc", "d").turned().groups, ("d", "ab", "ba", "cba"))
        self.assertEqual(Lot.of().turned(), Lot.of())

    def test_renamed(self):
        self.assertEqual(Lot.of("ab", "c").renamed("ab", "ba").groups, ("c", "ba"))
        self.assertEqual(Lot.of("a", "b").renamed("a", "b").groups, ("b",))
        self.assertEqual(Lot.of("ab", "c").renamed("", "").groups, ("c", "ab"))

    def test_scattered(self):
        self.assertEqual(Lot.of("cab", "bd").scattered().groups, ("a", "b", "c", "d"))
        self.assertEqual(Lot.of().scattered(), Lot.of())

    def test_properties(self):
        for name in ("letters", "longest"):
            self.assertIsInstance(vars(Lot)[name], property)


class TestOperators(GrowsCase):
    def test_two_lots(self):
        first = Lot.of("a", "ab", "c")
        second = Lot.of("c", "b", "a")
        self.assertEqual((first | second).groups, ("a", "b", "c", "ab"))
        self.assertEqual((first & second).groups, ("a", "c"))
        self.assertEqual((first - second).groups, ("ab",))
        self.assertEqual((second - first).groups, ("b",))
        self.assertEqual([first.text(), second.text()], ["a c ab", "a b c"])

    def test_with_the_empty_lot(self):
        lot = Lot.of("a", "ab")
        empty = Lot.of()
        self.assertEqual([lot | empty, lot & empty, lot - empty, empty - lot], [lot, empty, lot, empty])
        self.same(empty <= lot, True)
        self.same(empty <= empty, True)
        self.same(lot <= empty, False)

    def test_subsets(self):
        self.same(Lot.of("a") <= Lot.of("a", "b"), True)
        self.same(Lot.of("a", "b") <= Lot.of("a", "b"), True)
        self.same(Lot.of("a", "c") <= Lot.of("a", "b"), False)
        self.same(Lot.of("aa") <= Lot.of("a"), False)

    def test_equality(self):
        self.same(Lot.of("a", "b") == Lot(["b", "a", "a"]), True)
        self.same(Lot.of("a") == Lot.of("b"), False)
        for other in (("a",), ["a"], "a", None, 1, Saying.full("a")):
            self.same(Lot.of("a") == other, False)
            self.same(Lot.of("a") != other, True)

    def test_groups_of_a_lot(self):
        lot = Lot.of("ba", "b", "a")
        self.same("ba" in lot, True)
        self.same("ab" in lot, False)
        self.same("" in lot, False)
        self.same(len(lot), 3)
        self.same(abs(lot), 4)
        self.assertEqual(list(lot), ["a", "b", "ba"])
        self.assertEqual([group for group in lot], ["a", "b", "ba"])
        self.assertEqual((len(Lot.of()), abs(Lot.of()), list(Lot.of())), (0, 0, []))

    def test_two_loops_at_once(self):
        lot = Lot.of("a", "b")
        self.assertEqual([x + y for x in lot for y in lot], ["aa", "ab", "ba", "bb"])

    def test_a_list_that_was_returned_is_a_new_one(self):
        lot = Lot.of("a", "b")
        groups = list(lot)
        groups.append("c")
        self.assertEqual(list(lot), ["a", "b"])

    def test_operators_are_defined_in_the_class(self):
        for name in "or and sub le eq contains len iter abs".split():
            self.assertTrue(inspect.isfunction(vars(Lot)[f"__{name}__"]))


if __name__ == "__main__":
    unittest.main()
