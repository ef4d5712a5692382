import unittest

from helpers import GrowsCase, joined, permuting, random_lot, random_saying, seeded
from stillgrows.apart import in_order
from stillgrows.closures import gap_table
from stillgrows.costs import cheapest_growth, cost_table, gap_growth
from stillgrows.errors import UnknownSign
from stillgrows.growths import Growth
from stillgrows.lots import Lot
from stillgrows.sayings import Saying

HAS_A = Saying.read("ab: 1 0 -, 1 1 +")


def after_joins(row, lot, most):
    """For each number of joins the set of the rows that so many joins make."""
    levels = [{row}]
    for _ in range(most):
        levels.append({other for before in levels[-1] for other in joined(before, lot.groups)})
    return levels


def some_pairs(seed, many, most=4, longest=3):
    rng = seeded(seed)
    yield HAS_A, Lot([])
    yield HAS_A, Lot.of("a")
    yield Saying.single("ab", "aabb"), Lot.of("ab")
    yield Saying.single("ab", "abab"), Lot.of("ab", "b")
    yield Saying.void("ab"), Lot.of("a")
    for _ in range(many):
        yield random_saying(rng, "ab", rng.randint(1, most)), random_lot(rng, "ab", rng.randint(1, 2), longest)


class GrowthCase(GrowsCase):
    def is_growth_by(self, growth, lot, row):
        """Check that the growth starts at the row, is by the lot and is in order."""
        self.assertIs(type(growth), Growth)
        self.assertEqual(growth.start, row)
        self.assertTrue(all(group in lot for _, group in growth))
        self.assertEqual(growth, in_order(growth))


class TestCosts(GrowthCase):
    def test_the_example(self):
        self.same(cost_table(HAS_A, Lot.of("a")), ((0, 1), (None, 0)))
        self.same(cost_table(HAS_A, Lot.of("b")), ((0, None), (None, 0)))
        self.assertEqual(gap_growth(HAS_A, Lot.of("a"), 0, 1), Growth("", [(0, "a")]))
        self.same(gap_growth(HAS_A, Lot.of("a"), 1, 0), None)
        self.assertEqual(gap_growth(HAS_A, Lot.of("a"), 0, 0), Growth(""))

    def test_costs_are_the_fewest_joins(self):
        for saying, lot in some_pairs(150, 40):
            levels = after_joins("", lot, 4)
            table = cost_table(saying, lot)
            self.assertEqual([type(entry) for entry in table], [tuple] * saying.size)
            for start in range(saying.size):
                for last in range(saying.size):
                    found = [joins for joins, level in enumerate(levels)
                             if any(saying.state_after(row, start) == last for row in level)]
                    cost = table[start][last]
                    if found:
                        self.same(cost, found[0])
                    else:
                        self.assertTrue(cost is None or cost > 4)

    def test_there_is_a_cost_where_the_gap_table_leads(self):
        rng = seeded(151)
        for size in (2, 5, 9):
            saying, lot = random_saying(rng, "abc", size), random_lot(rng, "abc", 3, 4)
            gap = gap_table([[(to,) for to in entry] for entry in saying.table], lot.groups, "abc")
            costs = cost_table(saying, lot)
            self.assertEqual(tuple(tuple(last for last, cost in enumerate(entry) if cost is not None)
                                   for entry in costs), gap)

    def test_gap_growths(self):
        for saying, lot in some_pairs(152, 40, 6, 4):
            costs = cost_table(saying, lot)
            for start in range(saying.size):
                for last in range(saying.size):
                    growth = gap_growth(saying, lot, start, last)
                    if costs[start][last] is None:
                        self.assertIsNone(growth)
                    else:
                        self.is_growth_by(growth, lot, "")
                        self.assertEqual(len(growth), costs[start][last])
                        self.assertEqual(saying.state_after(growth.row, start), last)

    def test_joins_inside_joins(self):
        # As many `a` as `b`, all `a` first: each join stands inside the one before it.
        saying = Saying.single("ab", "a" * 12 + "b" * 12)
        self.assertEqual(cost_table(saying, Lot.of("ab"))[0][saying.marks.index(True)], 12)
        growth = gap_growth(saying, Lot.of("ab"), 0, saying.marks.index(True))
        self.assertEqual((growth.row, len(growth)), ("a" * 12 + "b" * 12, 12))
        self.is_growth_by(growth, Lot.of("ab"), "")

    def test_a_row_that_is_made_in_several_ways(self):
        saying = Saying.single("abc", "abcabcab")
        for lot, wanted in ((Lot.of("a", "bc", "b"), 6), (Lot.of("abc", "ab"), 3), (Lot.of("abca", "bcab"), 2),
                            (Lot.of("abca", "bcab", "abcab", "c"), 2), (Lot.of("ca", "bc"), None)):
            self.assertEqual(cost_table(saying, lot)[0][saying.marks.index(True)], wanted)

    def test_costs_that_double(self):
        # The sign `a` leads from k to k - 1, `c` from -k to -k - 1, and `b` from -k back to k.
        # So the group `abc` leads from k to -k if both its gaps lead from k - 1 to 1 - k.
        def place(k):
            return 19 - k if -19 <= k <= 19 else 39
        table = [[39 if k <= 0 else place(k - 1), 39 if k > 0 else place(-k), 39 if k > 0 else place(k - 1)]
                 for k in range(19, -20, -1)] + [[39, 39, 39]]
        saying = Saying("abc", table, [state == place(0) for state in range(40)])
        self.assertEqual(saying.size, 40)
        lot, costs, lost = Lot.of("abc"), cost_table(saying, Lot.of("abc")), saying.state_after("b")
        for k in range(20):
            start = saying.state_after("a" * (19 - k))
            last = saying.state_after("a" * 19 + "c" * k)
            self.assertEqual([(to, cost) for to, cost in enumerate(costs[start])
                              if cost is not None and to != lost],
                             sorted({(start, 0), (last, 2 ** k - 1)}))
            if k < 7:
                growth = gap_growth(saying, lot, start, last)
                self.assertEqual((len(growth), saying.state_after(growth.row, start)), (2 ** k - 1, last))
                self.is_growth_by(growth, lot, "")
        row = "a" * 13
        growth = cheapest_growth(saying, lot, row, [saying.state_after("a" * 19 + "c" * 6)], most=63)
        self.assertEqual((len(growth), growth.row[:14], saying.state_after(growth.row)),
                         (63, "a" * 14, saying.state_after("a" * 19 + "c" * 6)))
        self.same(cheapest_growth(saying, lot, "", [saying.state_after("a" * 19 + "c" * 19)], most=100), None)


class TestCheapest(GrowthCase):
    def test_against_a_plain_search(self):
        for saying, lot in some_pairs(153, 25):
            for row in ("", "a", "ba", "abb"):
                levels = after_joins(row, lot, 3)
                for wanted in ([0], list(range(1, saying.size)), (saying.size - 1, saying.size - 1)):
                    found = [joins for joins, level in enumerate(levels)
                             if any(saying.state_after(other) in wanted for other in level)]
                    growth = cheapest_growth(saying, lot, row, wanted)
                    if not found:
                        self.assertTrue(growth is None or len(growth) > 3)
                        continue
                    self.is_growth_by(growth, lot, row)
                    self.assertEqual(len(growth), found[0])
                    self.assertIn(saying.state_after(growth.row), wanted)

    def test_most(self):
        saying, lot = Saying.single("ab", "aabab"), Lot.of("ab", "a")
        wanted = [saying.marks.index(True)]
        for row, joins in (("aabab", 0), ("aab", 1), ("a", 2), ("", 3), ("ab", 2), ("bb", 3)):
            for most in (None, joins, joins + 1, 50):
                growth = cheapest_growth(saying, lot, row, wanted, most=most)
                self.is_growth_by(growth, lot, row)
                self.assertEqual((len(growth), growth.row), (joins, "aabab"))
            self.same(cheapest_growth(saying, lot, row, wanted, most=joins - 1), None)
        self.same(cheapest_growth(saying, lot, "bbb", wanted), None)
        self.same(cheapest_growth(saying, lot, "bbb", wanted, most=9), None)

    def test_wanted_states_in_any_order_and_none(self):
        for wanted in ([1, 0, 1], (0, 1)):
            self.assertEqual(cheapest_growth(HAS_A, Lot.of("a"), "b", wanted), Growth("b"))
        self.assertEqual(len(cheapest_growth(HAS_A, Lot.of("a"), "b", [1, 1])), 1)
        self.same(cheapest_growth(HAS_A, Lot.of("a"), "b", []), None)
        self.same(cheapest_growth(HAS_A, Lot.of("a"), "ab", [0]), None)

    def test_unknown_signs(self):
        self.refuses(UnknownSign, "d", cost_table, HAS_A, Lot.of("a", "bdc"))
        self.refuses(UnknownSign, "c", gap_growth, HAS_A, Lot.of("c"), 0, 0)
        self.refuses(UnknownSign, "c", cheapest_growth, HAS_A, Lot.of("bc"), "d", [])
        self.refuses(UnknownSign, "d", cheapest_growth, HAS_A, Lot.of("b"), "bdc", [], most=0)

    def test_nothing_is_changed(self):
        wanted, lot = [1, 0, 1], Lot.of("a", "ba")
        cheapest_growth(HAS_A, lot, "b", wanted)
        self.assertEqual((wanted, lot.groups, HAS_A.text()), ([1, 0, 1], ("a", "ba"), "ab: 1 0 -, 1 1 +"))

    def test_the_greatest_sizes(self):
        rng = seeded(154)
        for saying in (permuting(rng, "abcd", 40), random_saying(rng, "abcd", 40)):
            lot = random_lot(rng, "abcd", 8, 6)
            costs = cost_table(saying, lot)
            row = "".join(rng.choice("abcd") for _ in range(200))
            for last in (0, 13, saying.size - 1):
                growth = cheapest_growth(saying, lot, row, [last])
                if growth is not None:
                    self.is_growth_by(growth, lot, row)
                    self.assertEqual(saying.state_after(growth.row), last)
                inner = gap_growth(saying, lot, 1, last)
                self.assertEqual(None if inner is None else len(inner), costs[1][last])

    def test_100_joins(self):
        ring = Saying("ab", [[(state + 1) % 40, state] for state in range(40)], [state == 39 for state in range(40)])
        growth = cheapest_growth(ring, Lot.of("a"), "b" * 150, [39])
        self.is_growth_by(growth, Lot.of("a"), "b" * 150)
        self.assertEqual(len(growth), 39)
        # Two circles of 9 and 11 states: the one is left behind 97 signs `a`, or 97 - 99 and so on.
        moves = [[(at + 1) % 9, 9] for at in range(9)] + [[20, 9 + (at + 1) % 11] for at in range(11)] + [[20, 20]]
        circles = Saying("ab", moves, [state == 18 for state in range(21)])
        costs = cost_table(circles, Lot.of("ab"))
        most = max(cost for cost in costs[0] if cost is not None)
        last = costs[0].index(most)
        growth = gap_growth(circles, Lot.of("ab"), 0, last)
        self.assertEqual((len(growth), circles.state_after(growth.row)), (most, last))


if __name__ == "__main__":
    unittest.main()
