import unittest

from helpers import (GrowsCase, all_rows, doubled, joined, permuting, random_lot, random_saying, seeded, within_steps)
from stillgrows.doublings import doublings, paced_growth
from stillgrows.errors import UnknownSign
from stillgrows.growths import Growth
from stillgrows.lots import Lot
from stillgrows.paces import paced_spread
from stillgrows.sayings import Saying

NO_AA = Saying.read("ab: 1 0 +, 2 0 +, 2 2 -")


class PaceCase(GrowsCase):
    def is_growth_at_pace(self, growth, lot, paced, row):
        """Check that each join of the growth joins a group of the lot or doubles a paced sign."""
        self.assertIs(type(growth), Growth)
        self.assertEqual(growth.start, row)
        for before, (gap, group) in zip(growth.stages(), growth.joins):
            self.assertTrue(group in lot or (gap, group) in doublings(before, paced), growth.text())

    def is_cheapest(self, saying, lot, paced, row, wanted, most):
        """Check the growth against all rows that so many joins make, or fewer if the growth has fewer."""
        growth = paced_growth(saying, lot, paced, row, wanted)
        fewer = most if growth is None else min(most, len(growth) - 1)
        if fewer >= 0:
            rows = within_steps(row, lambda other: joined(other, lot.groups) | doubled(other, paced), fewer)
            self.assertFalse({saying.state_after(other) for other in rows} & set(wanted))
        if growth is not None:
            self.is_growth_at_pace(growth, lot, paced, row)
            self.assertIn(saying.state_after(growth.row), wanted)
        ends = paced_spread(saying, lot, paced).ends(row)
        self.assertEqual(growth is not None, bool(set(wanted) & set(ends)))
        return growth


class TestDoublings(GrowsCase):
    def test_doublings(self):
        self.same(doublings("aba", "a"), [(1, "a"), (3, "a")])
        self.same(doublings("aabz", "zab"), [(1, "a"), (2, "a"), (3, "b"), (4, "z")])
        self.same(doublings("aab", "bb"), [(3, "b")])
        self.same(doublings("abc", ""), [])
        self.same(doublings("", "abc"), [])
        self.same(doublings("ab", "xyz"), [])
        for row in all_rows("ab", 4):
            self.assertEqual({Growth(row, [join]).row for join in doublings(row, "ab")}, doubled(row, "ab"))


class TestGrowth(PaceCase):
    def test_the_example(self):
        growth = paced_growth(NO_AA, Lot([]), "a", "ba", (2,))
        self.assertEqual(growth.text(), "ba: 2 a")

    def test_against_a_plain_search(self):
        rng = seeded(340)
        lengths = []
        for _ in range(60):
            saying, lot = random_saying(rng, "ab", rng.randint(1, 6)), random_lot(rng, "ab", rng.randint(0, 2), 3)
            for row in ("", "a", "ba"):
                for paced in ("", "a", "ab"):
                    wanted = [rng.randrange(saying.size)]
                    growth = self.is_cheapest(saying, lot, paced, row, wanted, 3)
                    lengths.append(-1 if growth is None else len(growth))
        self.assertLessEqual({-1, 0, 1, 2, 3}, set(lengths))

    def test_a_growth_that_needs_no_join(self):
        for paced, lot in (("", Lot([])), ("ab", Lot.of("a"))):
            self.same(paced_growth(NO_AA, lot, paced, "aba", [1, 0]) == Growth("aba"), True)
        self.same(paced_growth(NO_AA, Lot.of("a"), "", "", (0,)) == Growth(""), True)

    def test_wanted_states_in_any_order_and_twice(self):
        for wanted in ([2, 1, 2], (1, 2), [1, 1, 2]):
            self.assertEqual(paced_growth(NO_AA, Lot([]), "a", "a", wanted), Growth("a"))
        self.assertEqual(len(paced_growth(NO_AA, Lot([]), "a", "a", [2, 2])), 1)
        self.same(paced_growth(NO_AA, Lot.of("ab"), "a", "a", []), None)

    def test_no_growth(self):
        self.same(paced_growth(NO_AA, Lot([]), "a", "", (1,)), None)
        self.same(paced_growth(NO_AA, Lot([]), "b", "ab", (2,)), None)
        self.same(paced_growth(NO_AA, Lot.of("aa"), "ba", "aa", (0, 1)), None)

    def test_groups_between_the_two_signs_of_a_doubling(self):
        saying = Saying.single("ab", "aba")
        wanted = [saying.state_after("aba")]
        growth = paced_growth(saying, Lot.of("b"), "a", "a", wanted)
        self.is_growth_at_pace(growth, Lot.of("b"), "a", "a")
        self.assertEqual((len(growth), growth.row), (2, "aba"))
        deep = Saying.single("abc", "acbacba")
        growth = paced_growth(deep, Lot.of("cb"), "a", "a", [deep.state_after("acbacba")])
        self.is_growth_at_pace(growth, Lot.of("cb"), "a", "a")
        self.assertEqual((len(growth), growth.row), (4, "acbacba"))
        # Between the signs of a doubled `a` stands a group in which `b` is doubled around another one.
        nested = Saying.single("abc", "abcba")
        wanted = [nested.state_after("abcba")]
        growth = paced_growth(nested, Lot.of("b", "c"), "ba", "a", wanted)
        self.is_growth_at_pace(growth, Lot.of("b", "c"), "ab", "a")
        self.assertEqual((len(growth), growth.row), (4, "abcba"))

    def test_doubled_signs_of_groups(self):
        # In the joined group `ab` its `a` is doubled, and `c` joins between the two signs.
        saying = Saying.single("abc", "acab")
        wanted = [saying.state_after("acab")]
        growth = paced_growth(saying, Lot.of("ab", "c"), "ab", "", wanted)
        self.is_growth_at_pace(growth, Lot.of("ab", "c"), "a", "")
        self.assertEqual((len(growth), growth.row), (3, "acab"))
        self.same(paced_growth(saying, Lot.of("ab", "c"), "b", "", wanted), None)

    def test_many_joins(self):
        ring = Saying("ab", [[(at + 1) % 8, at] for at in range(8)], [at == 7 for at in range(8)])
        for row, paced, lot, joins in (("a", "a", Lot([]), 6), ("b", "ab", Lot.of("a"), 7), ("", "b", Lot.of("aaa"), 5),
                                       ("bab", "ba", Lot([]), 6), ("a", "", Lot.of("aa"), 3)):
            growth = paced_growth(ring, lot, paced, row, [7])
            self.is_growth_at_pace(growth, lot, paced, row)
            self.assertEqual((len(growth), ring.state_after(growth.row)), (joins, 7))

    def test_joins_that_double(self):
        # The sign `a` leads from k to k - 1, `c` from -k to -k - 1, and `b` from -k back to k.
        # So the group `abc` leads from k to -k if both its gaps lead from k - 1 to 1 - k.
        def place(k):
            return 3 - k if -3 <= k <= 3 else 7
        table = [[7 if k <= 0 else place(k - 1), 7 if k > 0 else place(-k), 7 if k > 0 else place(k - 1)]
                 for k in range(3, -4, -1)] + [[7, 7, 7]]
        saying = Saying("abc", table, [state == place(0) for state in range(8)])
        self.assertEqual(saying.size, 8)
        lot = Lot.of("abc")
        for k in range(4):
            wanted = [saying.state_after("aaa" + "c" * k)]
            growth = paced_growth(saying, lot, "", "a" * (3 - k), wanted)
            self.is_growth_at_pace(growth, lot, "", "a" * (3 - k))
            self.assertEqual((len(growth), saying.state_after(growth.row)), (2 ** k - 1, wanted[0]))
            # A doubled `c` does what another group would do, and so does a doubled `a`.
            for paced in ("c", "a", "ac", "b"):
                self.is_cheapest(saying, lot, paced, "a" * (3 - k), wanted, 2)

    def test_errors_in_their_order(self):
        lot = Lot.of("d", "ae")
        self.refuses(UnknownSign, "c", paced_growth, NO_AA, lot, "ac", "x", [0])
        self.refuses(UnknownSign, "d", paced_growth, NO_AA, lot, "ab", "x", [0])
        self.refuses(UnknownSign, "x", paced_growth, NO_AA, Lot.of("b"), "ab", "axy", [0])
        self.refuses(UnknownSign, "y", paced_growth, NO_AA, Lot([]), "", "ay", [])

    def test_the_greatest_sizes(self):
        rng = seeded(342)
        row = "".join(rng.choice("abcd") for _ in range(200))
        for saying in (permuting(rng, "abcd", 8), random_saying(rng, "abcd", 8)):
            lot = random_lot(rng, "abcd", 8, 6)
            for start in (row, "a", ""):
                for last in range(saying.size):
                    growth = paced_growth(saying, lot, "dbca", start, [last])
                    if growth is not None:
                        self.is_growth_at_pace(growth, lot, "abcd", start)
                        self.assertEqual(saying.state_after(growth.row), last)


if __name__ == "__main__":
    unittest.main()
