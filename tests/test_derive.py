import unittest

from helpers import GrowsCase, all_rows, seeded
from stillgrows.apart import in_order
from stillgrows.derive import comes, count_growths, fewest_joins, find_growth
from stillgrows.growths import Growth
from stillgrows.lots import Lot
from stillgrows.nests import bracketed

LOTS = [Lot.of(), Lot.of("a"), Lot.of("b"), Lot.of("ab"), Lot.of("a", "aa"), Lot.of("ab", "ba"), Lot.of("aab", "b"),
        Lot.of("a", "b", "ab"), Lot.of("aba", "bb", "a"), Lot.of("abab", "aa", "b"),
        Lot.of("a", "ab", "baa")]


def growths_in_order(start, target, lot, last=-1):
    """All growths in order from one row to another, as lists of joins, by a plain search."""
    found = [[]] if start == target else []
    if len(start) < len(target):
        for gap in range(last + 1, len(start) + 1):
            for group in lot:
                row = start[:gap] + group + start[gap:]
                found += [[(gap, group)] + rest for rest in growths_in_order(row, target, lot, gap)]
    return found


def plain_distances(start, lot, longest):
    """The distances from the start row to all rows of at most `longest` signs, row by row."""
    found = {start: 0}
    rows = [start]
    for row in rows:
        for group in lot:
            for gap in range(len(row) + 1):
                grown = row[:gap] + group + row[gap:]
                if len(grown) <= longest and grown not in found:
                    found[grown] = found[row] + 1
                    rows.append(grown)
    return found


class TestDerive(GrowsCase):
    def check_growth(self, growth, start, target, lot, joins):
        self.assertIsInstance(growth, Growth)
        self.assertEqual((growth.start, growth.row, len(growth)), (start, target, joins))
        self.assertTrue(all(group in lot for _, group in growth))
        self.assertEqual(growth, in_order(growth))

    def test_the_examples(self):
        lot = Lot.of("a", "aa")
        self.same(fewest_joins("", "aaa", lot), 2)
        self.same(count_growths("", "aaa", lot), 4)
        texts = {bracketed(Growth("", joins)) for joins in growths_in_order("", "aaa", lot)}
        self.assertEqual(texts, {"(a)(a)(a)", "(aa)(a)", "(a)(aa)", "(a(a)a)"})
        self.assertIn(bracketed(find_growth("", "aaa", lot)), texts - {"(a)(a)(a)"})
        self.same(count_growths("a", "aa", Lot.of("a")), 2)
        self.assertEqual(growths_in_order("a", "aa", Lot.of("a")), [[(0, "a")], [(1, "a")]])

    def test_all_short_rows_against_a_plain_search(self):
        for lot in LOTS:
            for start in all_rows("ab", 3):
                distances = plain_distances(start, lot, 5)
                for target in all_rows("ab", 5):
                    distance = distances.get(target)
                    self.assertEqual(fewest_joins(start, target, lot), distance)
                    self.same(comes(start, target, lot), distance is not None)
                    self.assertEqual(count_growths(start, target, lot),
                                     len(growths_in_order(start, target, lot)))
                    growth = find_growth(start, target, lot)
                    if distance is None:
                        self.assertIsNone(growth)
                    else:
                        self.check_growth(growth, start, target, lot, distance)

    def test_long_rows_of_one_sign(self):
        for lot in (Lot.of("a"), Lot.of("aa"), Lot.of("aa", "aaa"), Lot.of("aaaa", "a")):
            for start in ("", "a", "aaa"):
                distances = plain_distances(start, lot, 9)
                for target in all_rows("a", 9):
                    self.assertEqual(fewest_joins(start, target, lot), distances.get(target))
                    if len(target) <= 7:
                        self.assertEqual(count_growths(start, target, lot),
                                         len(growths_in_order(start, target, lot)))

    def test_the_empty_lot(self):
        for row in ("", "a", "abz"):
            self.same(fewest_joins(row, row, Lot.of()), 0)
            self.same(count_growths(row, row, Lot.of()), 1)
            self.assertEqual(find_growth(row, row, Lot.of()), Growth(row))
            self.same(comes(row, row, Lot.of()), True)
        self.assertIsNone(fewest_joins("", "a", Lot.of()))
        self.same(count_growths("a", "", Lot.of()), 0)
        self.assertIsNone(find_growth("a", "b", Lot.of()))
        self.same(comes("ab", "ba", Lot.of()), False)

    def test_rows_that_cannot_come(self):
        lot = Lot.of("a", "b")
        for start, target in (("ab", "a"), ("ab", "ba"), ("a" * 200, "a"), ("c", "ab"), ("", "abc")):
            self.assertIsNone(fewest_joins(start, target, lot))
            self.assertEqual(count_growths(start, target, lot), 0)
            self.assertIsNone(find_growth(start, target, lot))
            self.assertFalse(comes(start, target, lot))

    def test_signs_that_no_group_has(self):
        self.assertEqual(find_growth("xz", "xabz", Lot.of("ab")), Growth("xz", [(1, "ab")]))
        self.assertEqual(find_growth("zx", "azbxz", Lot.of("a", "b", "z")),
                         Growth("zx", [(0, "a"), (2, "b"), (4, "z")]))

    def test_most(self):
        lot = Lot.of("ab")
        target = "aabb" + "ab"
        for most in range(-1, 3):
            self.assertIsNone(find_growth("", target, lot, most=most))
            self.same(comes("", target, lot, most=most), False)
        for most in (3, 4, 100, None):
            self.check_growth(find_growth("", target, lot, most=most), "", target, lot, 3)
            self.same(comes("", target, lot, most=most), True)
        self.assertEqual(find_growth("a", "a", lot, most=0), Growth("a"))
        self.assertTrue(comes("a", "a", lot, most=0))
        self.assertIsNone(find_growth("a", "a", lot, most=-1))
        self.assertFalse(comes("a", "b", lot, most=20))

    def test_most_is_passed_by_keyword(self):
        for call in (find_growth, comes):
            with self.assertRaises(TypeError):
                call("", "a", Lot.of("a"), 1)

    def test_the_greatest_sizes(self):
        lot = Lot(["a" * k for k in range(1, 7)] + ["b", "ba"])
        target = "a" * 20
        self.assertEqual(fewest_joins("", target, lot), 4)
        self.check_growth(find_growth("aa", target, lot), "aa", target, lot, 3)
        # With one-sign groups only, a growth in order is a choice of the start row's signs.
        self.assertEqual(count_growths("a" * 10, target, Lot.of("a")), 184756)
        self.assertEqual(count_growths("", target, lot), count_growths("", "b" * 20, lot.renamed("ab", "ba")))
        rng = seeded(20)
        letters = "".join(rng.choice("ab") for _ in range(20))
        groups = Lot(["".join(rng.choice("ab") for _ in range(6)) for _ in range(6)] + ["a", "b"])
        growth = find_growth("", letters, groups)
        self.check_growth(growth, "", letters, groups, fewest_joins("", letters, groups))
        nested = Lot.of("abcdef")
        deep = "abcdef"
        for gap in (3, 6):
            deep = deep[:gap] + "abcdef" + deep[gap:]
        self.assertEqual(fewest_joins("", deep, nested), 3)
        self.assertEqual(count_growths("", deep, nested), 1)

    def test_nothing_is_changed(self):
        lot = Lot.of("b", "a")
        self.assertEqual(find_growth("a", "ab", lot), find_growth("a", "ab", lot))
        self.assertEqual(lot.text(), "a b")


if __name__ == "__main__":
    unittest.main()
