import unittest

from helpers import GrowsCase, all_rows, permuting, random_lot, random_saying, seeded
from stillgrows.apart import gap_growths
from stillgrows.errors import (GapOutOfRange, InvalidGroup, NotHolding, NotInLot, UnknownSign, WrongCount)
from stillgrows.growths import Growth
from stillgrows.lots import Lot
from stillgrows.posts import ends_under, growth_against, orders_after, sure_under, widest_orders
from stillgrows.sayings import Saying
from stillgrows.spreads import plain_spread
from stillgrows.verdicts import growth_out

HAS_A = Saying.read("ab: 1 0 -, 1 1 +")
ENDS_WITH_B = Saying.read("ab: 0 1 -, 0 1 +")
EMPTY = Lot([])


def grown_under(row, orders, most):
    """The rows that so many joins make under the orders, with the fewest joins of each.

    What is kept is the row with the gap of the start row to which each of its gaps belongs.
    """
    found = {(row, tuple(range(len(row) + 1))): 0}
    level = list(found)
    for many in range(1, most + 1):
        after = []
        for before, gaps in level:
            for gap, start_gap in enumerate(gaps):
                for group in orders[start_gap]:
                    after.append((before[:gap] + group + before[gap:],
                                  gaps[:gap] + (start_gap,) * (len(group) + 1) + gaps[gap + 1:]))
        level = [form for form in set(after) if form not in found]
        found.update({form: many for form in level})
    fewest = {}
    for (other, _), many in found.items():
        fewest[other] = min(many, fewest.get(other, many))
    return fewest


def keeps_orders(growth, orders):
    """Whether the growth keeps the orders of its start row."""
    return all(group in lot for lot, part in zip(orders, gap_growths(growth)) for _, group in part.joins)


def some_orders(rng, row, many=2):
    kind = rng.randrange(3)
    if kind == 0:
        return [random_lot(rng, "ab", many, 3)] * (len(row) + 1)
    return [random_lot(rng, "ab", rng.randint(0, many), 3) for _ in range(len(row) + 1)]


class TestEnds(GrowsCase):
    def test_the_example(self):
        orders = [Lot.of("b"), Lot.of("c", "d")]
        self.assertIn("bacdc", grown_under("a", orders, 4))
        single = Saying.single("abcd", "bacdc")
        self.assertIn(single.state_after("bacdc"), ends_under(single, "a", orders))
        other = Saying.single("abcd", "ab")
        self.assertNotIn(other.state_after("ab"), ends_under(other, "a", orders))
        self.same(sure_under(~other, "a", orders), True)
        self.same(sure_under(~single, "a", orders), False)

    def test_against_a_plain_search(self):
        rng = seeded(360)
        answers = set()
        for _ in range(60):
            saying = random_saying(rng, "ab", rng.randint(1, 4))
            for row in ("", "a", "bab"):
                orders = some_orders(rng, row, 1)
                ends = ends_under(saying, row, orders)
                self.same(ends, tuple(sorted({saying.state_after(other) for other in grown_under(row, orders, 5)})))
                sure = sure_under(saying, row, tuple(orders))
                self.same(sure, all(saying.marks[state] for state in ends))
                answers.add(sure)
        self.assertEqual(answers, {True, False})

    def test_one_lot_everywhere_and_empty_lots(self):
        rng = seeded(361)
        for _ in range(30):
            saying, lot = random_saying(rng, "ab", 6), random_lot(rng, "ab", rng.randint(0, 3), 3)
            for row in ("", "ab", "bbab"):
                self.same(ends_under(saying, row, [lot] * (len(row) + 1)), plain_spread(saying, lot).ends(row))
                self.same(ends_under(saying, row, (EMPTY,) * (len(row) + 1)), (saying.state_after(row),))
                self.same(sure_under(saying, row, [EMPTY] * (len(row) + 1)), row in saying)

    def test_each_gap_has_its_own_lot(self):
        for gap in range(3):
            orders = [EMPTY] * 3
            orders[gap] = Lot.of("a")
            row = "bb"[:gap] + "a" + "bb"[gap:]
            for other in all_rows("ab", 3):
                saying = Saying.single("ab", other)
                self.same(sure_under(~saying, "bb", orders), other not in (row, "bb"))
            self.assertEqual(orders, [Lot.of("a") if at == gap else EMPTY for at in range(3)])

    def test_errors_in_their_order(self):
        for call in (ends_under, sure_under):
            self.refuses(WrongCount, 2, call, HAS_A, "ac", [Lot.of("d"), EMPTY])
            self.refuses(WrongCount, 0, call, HAS_A, "", [])
            self.refuses(WrongCount, 2, call, HAS_A, "", [EMPTY, EMPTY])
            self.refuses(UnknownSign, "e", call, HAS_A, "x", [Lot.of("a", "bed"), Lot.of("c")])
            self.refuses(UnknownSign, "d", call, HAS_A, "xy", [EMPTY, Lot.of("aaae", "d"), Lot.of("c")])
            self.refuses(UnknownSign, "y", call, HAS_A, "byx", [EMPTY] * 4)


class TestAfter(GrowsCase):
    def test_at_each_gap(self):
        orders = [Lot.of("ab"), Lot.of("c", "ab"), EMPTY]
        self.same(orders_after(orders, 0, "ab"), [Lot.of("ab")] * 3 + orders[1:])
        self.same(orders_after(tuple(orders), 1, "c"), [Lot.of("ab")] + [Lot.of("c", "ab")] * 2 + [EMPTY])
        self.same(orders_after(orders, 1, "ab"), [Lot.of("ab")] + [Lot.of("c", "ab")] * 3 + [EMPTY])
        self.same(orders_after([Lot.of("a")], 0, "a"), [Lot.of("a")] * 2)
        self.assertEqual(orders, [Lot.of("ab"), Lot.of("c", "ab"), EMPTY])

    def test_errors_in_their_order(self):
        orders = [Lot.of("ab"), EMPTY]
        for gap in (2, -1, 7):
            self.refuses(GapOutOfRange, gap, orders_after, orders, gap, "x")
        self.refuses(NotInLot, "ab", orders_after, orders, 1, "ab")
        self.refuses(NotInLot, "a", orders_after, orders, 0, "a")

    def test_the_row_grows_on_as_before(self):
        rng = seeded(362)
        for _ in range(40):
            row = rng.choice(["", "a", "ba"])
            orders = some_orders(rng, row)
            for gap in range(len(row) + 1):
                for group in orders[gap]:
                    other = row[:gap] + group + row[gap:]
                    after = orders_after(orders, gap, group)
                    self.assertEqual(len(after), len(other) + 1)
                    self.assertLessEqual(set(grown_under(other, after, 1)), set(grown_under(row, orders, 2)))


class TestWidest(GrowsCase):
    def test_the_example(self):
        lots = widest_orders(ENDS_WITH_B, "ab", Lot.of("a", "b"))
        self.same(lots, [Lot.of("a", "b"), Lot.of("a", "b"), Lot.of("b")])

    def test_by_its_words(self):
        rng = seeded(363)
        for _ in range(60):
            saying, lot = random_saying(rng, "ab", 4), random_lot(rng, "ab", 4, 3)
            for row in ("", "b", "abb"):
                if row not in saying:
                    self.refuses(NotHolding, row, widest_orders, saying, row, lot)
                    continue
                orders = [EMPTY] * (len(row) + 1)
                for gap in range(len(row) + 1):
                    for group in lot:
                        wider = orders[:gap] + [orders[gap] | Lot.of(group)] + orders[gap + 1:]
                        if sure_under(saying, row, wider):
                            orders = wider
                self.same(widest_orders(saying, row, lot), orders)
                for gap in range(len(row) + 1):
                    for group in lot - orders[gap]:
                        wider = orders[:gap] + [orders[gap] | Lot.of(group)] + orders[gap + 1:]
                        self.assertFalse(sure_under(saying, row, wider))

    def test_the_groups_are_visited_in_lot_order(self):
        # At most one `a`, or at most one `b`: what is added first keeps the other out.
        saying = ~(Saying.read("ab: 1 0 -, 1 1 +") & Saying.read("ab: 0 1 -, 1 1 +"))
        self.same(widest_orders(saying, "", Lot.of("b", "a")), [Lot.of("a")])
        self.same(widest_orders(saying, "b", Lot.of("b", "a")), [Lot.of("b"), Lot.of("b")])

    def test_errors_in_their_order(self):
        self.refuses(UnknownSign, "d", widest_orders, HAS_A, "x", Lot.of("a", "bdc"))
        self.refuses(UnknownSign, "x", widest_orders, HAS_A, "bxy", Lot.of("a"))
        self.refuses(NotHolding, "bb", widest_orders, HAS_A, "bb", Lot.of("a"))
        self.refuses(NotHolding, "", widest_orders, HAS_A, "", EMPTY)
        self.same(widest_orders(HAS_A, "a", EMPTY), [EMPTY, EMPTY])


class TestAgainst(GrowsCase):
    def test_against_a_plain_search(self):
        rng = seeded(364)
        lengths = set()
        for _ in range(150):
            saying = random_saying(rng, "ab", rng.randint(1, 6))
            saying = rng.choice([saying, saying | Saying.single("ab", "ba"), ~Saying.single("ab", "aaba")])
            row = rng.choice(["", "a", "ba"])
            orders = some_orders(rng, row, 1)
            gap, group = rng.randint(0, len(row)), rng.choice(["a", "b", "ab", "bb"])
            wider = list(orders)
            wider[gap] = wider[gap] | Lot.of(group)
            growth = growth_against(saying, row, tuple(orders), gap, group)
            out = [many for other, many in grown_under(row, wider, 4).items() if other not in saying]
            if growth is None:
                self.assertEqual(out, [])
                self.assertTrue(sure_under(saying, row, wider))
            else:
                self.assertIs(type(growth), Growth)
                self.assertEqual(growth.start, row)
                self.assertTrue(keeps_orders(growth, wider))
                self.assertNotIn(growth.row, saying)
                if out or len(growth) <= 4:
                    self.assertEqual(len(growth), min(out))
            lengths.add(-1 if growth is None else len(growth))
        self.assertLessEqual({-1, 0, 1, 2}, lengths)

    def test_a_row_that_is_not_in_the_saying(self):
        self.same(growth_against(HAS_A, "b", [EMPTY, EMPTY], 0, "b") == Growth("b"), True)

    def test_a_group_that_is_in_the_lot_already(self):
        no_bbb = Saying.read("ab: 0 1 +, 0 2 +, 0 3 +, 3 3 -")
        orders = [Lot.of("b"), EMPTY]
        growth = growth_against(no_bbb, "a", orders, 0, "b")
        self.assertEqual((growth.start, growth.row, len(growth)), ("a", "bbba", 3))
        self.assertEqual(orders, [Lot.of("b"), EMPTY])
        self.assertEqual(growth_against(no_bbb, "a", orders, 1, "a").row, "bbba")
        self.same(growth_against(no_bbb, "a", [EMPTY, EMPTY], 1, "a"), None)
        # With `bb` at the same gap two joins are enough.
        self.assertEqual(len(growth_against(no_bbb, "a", orders, 0, "bb")), 2)
        self.assertEqual(len(growth_against(no_bbb, "b", [EMPTY, Lot.of("b")], 0, "b")), 2)

    def test_one_lot_everywhere(self):
        rng = seeded(365)
        for _ in range(25):
            saying, lot = random_saying(rng, "ab", 6), random_lot(rng, "ab", 2, 3)
            growth = growth_against(saying, "ab", [lot] * 3, 1, lot.groups[0])
            wanted = growth_out(saying, lot, "ab")
            self.assertEqual(None if growth is None else len(growth), None if wanted is None else len(wanted))

    def test_errors_in_their_order(self):
        orders = [EMPTY, EMPTY]
        self.refuses(WrongCount, 3, growth_against, HAS_A, "x", [Lot.of("d")] * 3, 9, "")
        self.refuses(UnknownSign, "d", growth_against, HAS_A, "x", [EMPTY, Lot.of("d")], 9, "")
        self.refuses(UnknownSign, "x", growth_against, HAS_A, "x", orders, 9, "")
        for gap in (-1, 2):
            self.refuses(GapOutOfRange, gap, growth_against, HAS_A, "a", orders, gap, "")
        self.refuses(InvalidGroup, "", growth_against, HAS_A, "a", orders, 1, "")
        self.refuses(InvalidGroup, "xA", growth_against, HAS_A, "a", orders, 1, "xA")
        self.refuses(UnknownSign, "x", growth_against, HAS_A, "a", orders, 1, "axy")

    def test_the_greatest_sizes(self):
        rng = seeded(366)
        row = "".join(rng.choice("abcd") for _ in range(30))
        for saying in (permuting(rng, "abcd", 16), random_saying(rng, "abcd", 16)):
            saying = saying if row in saying else ~saying
            lot = random_lot(rng, "abcd", 8, 6)
            orders = widest_orders(saying, row, lot)
            self.assertTrue(sure_under(saying, row, orders))
            mixed = [Lot(rng.sample(lot.groups, rng.randint(0, len(lot)))) for _ in range(31)]
            growth = growth_against(saying, row, mixed, 30, "abcdab")
            if growth is not None:
                mixed[30] = mixed[30] | Lot.of("abcdab")
                self.assertTrue(keeps_orders(growth, mixed))
                self.assertNotIn(growth.row, saying)


if __name__ == "__main__":
    unittest.main()
