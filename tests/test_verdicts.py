import unittest

from helpers import GrowsCase, all_rows, grown, joined, permuting, random_lot, random_saying, seeded
from stillgrows.apart import in_order
from stillgrows.errors import UnknownSign
from stillgrows.lots import Lot
from stillgrows.sayings import Saying
from stillgrows.spreads import Spread, plain_spread
from stillgrows.verdicts import growth_in, growth_out, verdict

HAS_A = Saying.read("ab: 1 0 -, 1 1 +")


def plain_verdict(saying, lot, row, more=7):
    found = {other in saying for other in grown(row, lot.groups, len(row) + more)}
    return "open" if len(found) == 2 else "sure" if True in found else "never"


def fewest(saying, lot, row, inside, most):
    """The fewest joins that lead into the saying, or out of it, or None."""
    level = {row}
    for joins in range(most + 1):
        if any((other in saying) == inside for other in level):
            return joins
        level = {other for before in level for other in joined(before, lot.groups)}
    return None


def some_pairs(seed, many):
    rng = seeded(seed)
    for _ in range(many):
        yield random_saying(rng, "ab", rng.randint(1, 3)), random_lot(rng, "ab", rng.randint(0, 2), 2)


class TestVerdict(GrowsCase):
    def test_against_a_plain_search(self):
        found = set()
        for saying, lot in some_pairs(160, 30):
            spread = plain_spread(saying, lot)
            for row in all_rows("ab", 3):
                self.same(verdict(spread, row), plain_verdict(saying, lot, row))
                found.add(verdict(spread, row))
        self.assertEqual(found, {"sure", "never", "open"})

    def test_a_saying_that_holds_an_a(self):
        self.assertEqual([verdict(plain_spread(HAS_A, Lot.of("a")), row) for row in ("", "b", "a", "ba")],
                         ["open", "open", "sure", "sure"])
        self.assertEqual([verdict(plain_spread(HAS_A, Lot.of("b")), row) for row in ("", "b", "a", "ba")],
                         ["never", "never", "sure", "sure"])

    def test_a_spread_that_leaves_a_row_without_ends(self):
        spread = Spread("ab", (0,), [[(0,), ()]], [False], [(0,)])
        self.same(verdict(spread, "aa"), "never")
        self.same(verdict(spread, "ab"), "sure")
        self.same(verdict(spread, "aba"), "sure")
        self.same(verdict(Spread("a", (), [[(0,)]], [False], [(0,)]), ""), "sure")

    def test_unknown_signs(self):
        self.refuses(UnknownSign, "d", verdict, plain_spread(HAS_A, Lot.of("a")), "adc")


class TestGrowths(GrowsCase):
    def test_growths_out_and_in(self):
        for saying, lot in some_pairs(161, 30):
            spread = plain_spread(saying, lot)
            for row in all_rows("ab", 3):
                for call, inside in ((growth_out, False), (growth_in, True)):
                    growth, joins = call(saying, lot, row), fewest(saying, lot, row, inside, 3)
                    self.assertEqual(growth is None, verdict(spread, row) == ("never" if inside else "sure"))
                    if growth is None or joins is None:
                        self.assertTrue(joins is None and (growth is None or len(growth) > 3))
                        continue
                    self.assertEqual((growth.start, growth.row in saying, len(growth)), (row, inside, joins))
                    self.assertTrue(all(group in lot for _, group in growth))
                    self.assertEqual(growth, in_order(growth))
                    self.assertEqual(call(saying, lot, row, most=joins), growth)
                    self.assertEqual(call(saying, lot, row, most=None), growth)
                    self.assertIsNone(call(saying, lot, row, most=joins - 1))

    def test_edges(self):
        self.assertEqual(growth_out(HAS_A, Lot.of("a"), "b").text(), "b: -")
        self.assertEqual(len(growth_in(HAS_A, Lot.of("a"), "b")), 1)
        self.same(growth_in(HAS_A, Lot.of("a"), "b", most=0), None)
        self.same(growth_out(HAS_A, Lot.of("a", "b"), "ba"), None)
        self.same(growth_in(HAS_A, Lot.of("b"), "b"), None)
        self.same(growth_in(Saying.void("ab"), Lot.of("b"), ""), None)
        self.same(growth_out(Saying.full("ab"), Lot.of("b"), ""), None)

    def test_unknown_signs(self):
        for call in (growth_out, growth_in):
            self.refuses(UnknownSign, "c", call, HAS_A, Lot.of("bc"), "d")
            self.refuses(UnknownSign, "d", call, HAS_A, Lot.of("b"), "bdc", most=0)

    def test_the_greatest_sizes(self):
        rng = seeded(162)
        saying, lot = permuting(rng, "abcd", 40), random_lot(rng, "abcd", 8, 6)
        row = "".join(rng.choice("abcd") for _ in range(200))
        out, into = growth_out(saying, lot, row), growth_in(saying, lot, row)
        self.assertNotIn(out.row, saying)
        self.assertIn(into.row, saying)


if __name__ == "__main__":
    unittest.main()
