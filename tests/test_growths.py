import inspect
import operator
import unittest

from helpers import GrowsCase, some_growths
from stillgrows.errors import DoNotMeet, GapOutOfRange, InvalidGroup, InvalidText
from stillgrows.growths import Growth
from stillgrows.lots import Lot


class TestMaking(GrowsCase):
    def test_fields(self):
        growth = Growth("ab", [(1, "cd"), (2, "e")])
        self.same(growth.start, "ab")
        self.same(growth.joins, ((1, "cd"), (2, "e")))
        self.assertEqual(Growth("ab", ((1, "cd"), (2, "e"))), growth)
        self.same(Growth("ab").joins, ())
        self.assertEqual(growth.row, "acedb")

    def test_joins_at_every_gap(self):
        for gap, row in ((0, "xyab"), (1, "axyb"), (2, "abxy")):
            self.assertEqual(Growth("ab", [(gap, "xy")]).row, row)
        self.assertEqual(Growth("", [(0, "ab"), (2, "c"), (0, "d"), (2, "ee")]).row, "daeebc")

    def test_gaps_that_the_row_does_not_have(self):
        for gap in (-1, -3, 3, 1000000):
            self.refuses(GapOutOfRange, gap, Growth, "ab", [(gap, "c")])
        self.refuses(GapOutOfRange, 1, Growth, "", [(1, "c")])
        self.refuses(GapOutOfRange, 5, Growth, "ab", [(2, "cd"), (5, "e")])
        self.assertEqual(Growth("ab", [(2, "cd"), (4, "e")]).row, "abcde")

    def test_no_groups(self):
        for group in ("", "A", "a b", "a1", "~"):
            self.refuses(InvalidGroup, group, Growth, "ab", [(0, "c"), (1, group)])

    def test_which_error_comes_first(self):
        self.refuses(GapOutOfRange, 3, Growth, "ab", [(3, "A")])
        self.refuses(GapOutOfRange, -1, Growth, "ab", [(-1, "")])
        self.refuses(InvalidGroup, "A", Growth, "ab", [(0, "A"), (9, "c")])
        self.refuses(GapOutOfRange, 9, Growth, "ab", [(9, "c"), (0, "A")])

    def test_lists_are_copied(self):
        joins = [(0, "c")]
        growth = Growth("ab", joins)
        self.assertEqual(joins, [(0, "c")])
        joins.append((0, "d"))
        self.assertEqual((growth.joins, growth.row), (((0, "c"),), "cab"))

    def test_a_hundred_joins(self):
        growth = Growth("", [(k, "ab") for k in range(100)])
        self.assertEqual(growth.row, "a" * 100 + "b" * 100)
        self.assertEqual(len(growth), 100)


class TestRows(GrowsCase):
    def test_stages(self):
        growth = Growth("ab", [(1, "cd"), (2, "e")])
        self.assertEqual(list(growth.stages()), ["ab", "acdb", "acedb"])
        self.assertEqual(list(Growth("ab").stages()), ["ab"])
        self.assertEqual(list(Growth("").stages()), [""])
        self.assertTrue(inspect.isgeneratorfunction(Growth.stages))

    def test_owners(self):
        growth = Growth("ab", [(1, "cd"), (2, "e")])
        self.assertEqual(growth.owners(), [(0, 1), (1, 1), (2, 1), (1, 2), (0, 2)])
        self.assertEqual(Growth("").owners(), [])
        self.assertEqual(Growth("ab").owners(), [(0, 1), (0, 2)])
        self.assertEqual(Growth("", [(0, "ab"), (0, "cd")]).owners(), [(2, 1), (2, 2), (1, 1), (1, 2)])

    def test_owners_name_the_signs_of_the_end_row(self):
        for growth in some_growths(11):
            parts = [growth.start] + [group for _, group in growth.joins]
            owners = growth.owners()
            self.assertEqual("".join(parts[owner][place - 1] for owner, place in owners), growth.row)
            self.assertEqual(sorted(owners), [(k, p + 1) for k, part in enumerate(parts) for p in range(len(part))])

    def test_owners_is_a_new_list(self):
        growth = Growth("ab")
        growth.owners().append((9, 9))
        self.assertEqual(growth.owners(), [(0, 1), (0, 2)])

    def test_row_is_a_property(self):
        self.assertIsInstance(vars(Growth)["row"], property)
        self.assertIsInstance(vars(Growth)["read"], classmethod)


class TestOperators(GrowsCase):
    def test_joins(self):
        growth = Growth("ab", [(1, "cd"), (2, "e")])
        self.same(len(growth), 2)
        self.same(abs(growth), 3)
        self.assertEqual(list(growth), [(1, "cd"), (2, "e")])
        self.assertEqual([growth[0], growth[1]], [(1, "cd"), (2, "e")])
        self.assertEqual((len(Growth("a")), abs(Growth("a")), list(Growth("a"))), (0, 0, []))

    def test_a_list_of_the_joins_is_a_new_one(self):
        growth = Growth("ab", [(1, "cd")])
        joins = list(growth)
        joins.clear()
        self.assertEqual(list(growth), [(1, "cd")])

    def test_equality(self):
        growth = Growth("ab", [(1, "c")])
        self.same(growth == Growth("ab", ((1, "c"),)), True)
        self.same(growth == Growth("ab", [(2, "c")]), False)
        self.same(growth == Growth("ab", [(1, "d")]), False)
        self.same(growth == Growth("ba", [(1, "c")]), False)
        # The same end row by other joins is another growth.
        self.same(Growth("a", [(0, "a")]) == Growth("a", [(1, "a")]), False)
        for other in ("ab: 1 c", ((1, "c"),), None, 1, Lot.of("c")):
            self.same(growth == other, False)
            self.same(growth != other, True)

    def test_one_after_the_other(self):
        first = Growth("ab", [(1, "cd")])
        second = Growth("acdb", [(2, "e"), (0, "f")])
        self.assertEqual(first + second, Growth("ab", [(1, "cd"), (2, "e"), (0, "f")]))
        self.assertEqual(first + Growth("acdb"), first)
        self.assertEqual(Growth("ab") + first, first)
        self.assertEqual((first.text(), second.text()), ("ab: 1 cd", "acdb: 2 e, 0 f"))

    def test_growths_that_do_not_meet(self):
        first = Growth("ab", [(1, "cd")])
        self.refuses(DoNotMeet, ("acdb", "ab"), operator.add, first, Growth("ab", [(0, "x")]))
        self.refuses(DoNotMeet, ("ab", ""), operator.add, Growth("ab"), Growth(""))

    def test_without_the_last_joins_and_behind_the_first(self):
        joins = ((1, "cd"), (2, "e"), (0, "f"))
        growth = Growth("ab", joins)
        for k in range(6):
            self.assertEqual(growth << k, Growth("ab", joins[:max(0, 3 - k)]))
        self.assertEqual(growth >> 0, growth)
        self.assertEqual(growth >> 1, Growth("acdb", joins[1:]))
        self.assertEqual(growth >> 2, Growth("acedb", joins[2:]))
        for k in (3, 4, 100):
            self.assertEqual(growth >> k, Growth("facedb"))
        self.assertEqual([Growth("ab") << 1, Growth("ab") >> 1], [Growth("ab"), Growth("ab")])

    def test_the_two_parts_make_the_whole(self):
        for growth in some_growths(11):
            many = len(growth)
            for k in range(many + 1):
                self.assertEqual((growth << (many - k)) + (growth >> k), growth)

    def test_operators_are_defined_in_the_class(self):
        for name in "len iter getitem eq add lshift rshift abs".split():
            self.assertTrue(inspect.isfunction(vars(Growth)[f"__{name}__"]))


class TestOtherGrowths(GrowsCase):
    def test_renamed(self):
        growth = Growth("ab", [(1, "cb"), (2, "a")])
        self.assertEqual(growth.renamed("ab", "ba"), Growth("ba", [(1, "ca"), (2, "b")]))
        self.assertEqual(growth.renamed("c", "a"), Growth("ab", [(1, "ab"), (2, "a")]))
        self.assertEqual(growth.renamed("", ""), growth)
        self.assertEqual(growth.text(), "ab: 1 cb, 2 a")

    def test_turned(self):
        growth = Growth("ab", [(1, "cd"), (2, "e")])
        self.assertEqual(growth.turned(), Growth("ba", [(1, "dc"), (2, "e")]))
        self.assertEqual(Growth("").turned(), Growth(""))
        self.assertEqual(Growth("ab", [(0, "c")]).turned(), Growth("ba", [(2, "c")]))

    def test_turned_turns_every_row(self):
        for growth in some_growths(11):
            self.assertEqual(list(growth.turned().stages()), [row[::-1] for row in growth.stages()])
            self.assertEqual(growth.turned().turned(), growth)


class TestTexts(GrowsCase):
    def test_the_examples(self):
        growth = Growth.read("ab: 1 cd, 2 e")
        self.assertEqual((growth.row, growth.text()), ("acedb", "ab: 1 cd, 2 e"))
        empty = Growth.read(": -")
        self.assertEqual((empty, empty.text(), empty.row), (Growth(""), ": -", ""))

    def test_texts(self):
        self.assertEqual(Growth("ab").text(), "ab: -")
        self.assertEqual(Growth("", [(0, "ab")]).text(), ": 0 ab")
        self.assertEqual(Growth("a" * 12, [(12, "b"), (10, "c")]).text(), "aaaaaaaaaaaa: 12 b, 10 c")

    def test_each_growth_is_read_back(self):
        for growth in some_growths(11):
            self.assertEqual(Growth.read(growth.text()), growth)

    def test_texts_that_are_refused(self):
        for text in (
            "", "ab", ":", ": ", "ab:", "ab: ", "ab:-", "ab : -", " ab: -", "ab: - ", "ab:  -", "aB: -", "a1: -", "-: -",
            "ab: 1", "ab: c", "ab: 1 ", "ab: 1 C", "ab: 1  c", "ab: 1 c ", "ab: 1 c d", "ab: c 1", "ab: -, 1 c",
            "ab: 1 c, -", "ab: 1 c,2 d", "ab: 1 c,  2 d", "ab: 1 c, ", "ab: , 1 c", "ab: 01 c", "ab: 00 c",
            "ab: -1 c", "ab: +1 c", "ab: 3 c", "ab: 2 c, 4 d", ": 1 a", "ab: 0000000000 c", "ab: 1000000000 c",
            "ab: 999999999 c", "ab:: 1 c", "a: b: 1 c", "ab: 1 c; 2 d", "ab: 1 -",
        ):
            self.refuses(InvalidText, text, Growth.read, text)


if __name__ == "__main__":
    unittest.main()
