import unittest

from helpers import GrowsCase, all_rows
from stillgrows.errors import NotThere
from stillgrows.growths import Growth
from stillgrows.leaves import leave, leavings, places, residue
from stillgrows.lots import Lot


class TestPlaces(GrowsCase):
    def test_ordinary(self):
        self.assertEqual(places("abcab", "ab"), [0, 3])
        self.assertEqual(places("abcab", "b"), [1, 4])
        self.assertEqual(places("abcab", "ba"), [])
        self.assertEqual(places("ab", "ab"), [0])

    def test_pieces_may_overlap(self):
        self.assertEqual(places("aaaa", "aa"), [0, 1, 2])
        self.assertEqual(places("ababa", "aba"), [0, 2])

    def test_edges(self):
        self.assertEqual(places("", "a"), [])
        self.assertEqual(places("a", "aa"), [])


class TestLeave(GrowsCase):
    def test_ordinary(self):
        self.assertEqual(leave("abcab", 0, "ab"), "cab")
        self.assertEqual(leave("abcab", 3, "ab"), "abc")
        self.assertEqual(leave("abc", 1, "b"), "ac")
        self.assertEqual(leave("abc", 0, "abc"), "")

    def test_groups_that_do_not_stand_there(self):
        for row, gap, group in (
            ("abc", 0, "b"), ("abc", 3, "c"), ("abc", 2, "cd"), ("abc", 4, "a"), ("abc", 99, "a"), ("", 0, "a"),
            ("abc", -1, "c"), ("abc", -3, "abc"), ("aab", -3, "a"), ("abc", -1000000, "a"),
        ):
            self.refuses(NotThere, (gap, group), leave, row, gap, group)

    def test_a_leaving_takes_back_a_join(self):
        for gap in range(4):
            row = Growth("abc", [(gap, "xy")]).row
            self.assertEqual(leave(row, gap, "xy"), "abc")


class TestLeavings(GrowsCase):
    def test_ascending_gaps_and_lot_order(self):
        lot = Lot.of("ab", "b", "a", "ba")
        self.assertEqual(leavings("aba", lot), [(0, "a"), (0, "ab"), (1, "b"), (1, "ba"), (2, "a")])

    def test_edges(self):
        self.assertEqual(leavings("", Lot.of("a")), [])
        self.assertEqual(leavings("aba", Lot.of()), [])
        self.assertEqual(leavings("aba", Lot.of("c", "bb")), [])
        self.assertEqual(leavings("aaa", Lot.of("aa")), [(0, "aa"), (1, "aa")])

    def test_the_list_is_a_new_one(self):
        lot = Lot.of("a")
        leavings("aa", lot).clear()
        self.assertEqual(leavings("aa", lot), [(0, "a"), (1, "a")])
        self.assertEqual(lot, Lot.of("a"))


class TestResidue(GrowsCase):
    def test_ordinary(self):
        self.assertEqual(residue("aabb", Lot.of("ab")).text(), ": 0 ab, 1 ab")
        self.assertEqual(residue("cabab", Lot.of("ab")).text(), "c: 1 ab, 1 ab")
        self.assertEqual(residue("aba", Lot.of("a", "ba")).text(), ": 0 ba, 0 a")

    def test_edges(self):
        self.assertEqual(residue("", Lot.of("a")), Growth(""))
        self.assertEqual(residue("ab", Lot.of()), Growth("ab"))
        self.assertEqual(residue("aaa", Lot.of("aa")).text(), "a: 0 aa")

    def test_the_leavings_are_the_first_ones(self):
        lot = Lot.of("ab", "b", "ba")
        for row in all_rows("ab", 7):
            growth = residue(row, lot)
            self.assertEqual(growth.row, row)
            self.assertEqual(leavings(growth.start, lot), [])
            rows = list(growth.stages())
            for k, join in enumerate(growth):
                self.assertEqual(join, leavings(rows[k + 1], lot)[0])

    def test_a_long_row(self):
        growth = residue("a" * 50 + "b" * 50, Lot.of("ab"))
        self.assertEqual((growth.start, len(growth)), ("", 50))


if __name__ == "__main__":
    unittest.main()
