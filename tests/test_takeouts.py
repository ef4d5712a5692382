import unittest

from helpers import (GrowsCase, all_rows, joined, permuting, random_lot, random_saying, rows_in, seeded, without_one)
from stillgrows.errors import UnknownSign
from stillgrows.lots import Lot
from stillgrows.meanings import saying_of_text
from stillgrows.sayings import Saying
from stillgrows.subsets import states_of
from stillgrows.takeouts import completed_sets, one_join, one_leaving, within_joins

HAS_A = Saying.read("ab: 1 0 -, 1 1 +")
LONGEST = 6


def some_pairs(seed, many, most=6):
    """Random sayings and lots, among them the empty lot and groups that overlap themselves."""
    rng = seeded(seed)
    lots = [Lot([]), Lot.of("a"), Lot.of("aa"), Lot.of("aba"), Lot.of("ab", "abab"), Lot.of("a", "ab", "bab")]
    for lot in lots:
        yield random_saying(rng, "ab", most), lot
    for _ in range(many):
        yield random_saying(rng, "ab", rng.randint(1, most)), random_lot(rng, "ab", rng.randint(1, 4), 4)


def within(row, saying, lot, most):
    level = {row}
    for _ in range(most):
        level |= {other for before in level for other in joined(before, lot.groups)}
    return any(other in saying for other in level)


class TestLeavingsAndJoins(GrowsCase):
    def test_one_leaving(self):
        for saying, lot in some_pairs(130, 40):
            wanted = [row for row in all_rows("ab", LONGEST)
                      if any(other in saying for other in without_one(row, lot.groups))]
            self.assertEqual(rows_in(one_leaving(saying, lot), LONGEST), wanted, lot.text())

    def test_one_join(self):
        for saying, lot in some_pairs(131, 40):
            wanted = [row for row in all_rows("ab", LONGEST)
                      if any(other in saying for other in joined(row, lot.groups))]
            self.assertEqual(rows_in(one_join(saying, lot), LONGEST), wanted, lot.text())

    def test_within_joins(self):
        for saying, lot in some_pairs(132, 25, 4):
            for most in (0, 1, 2):
                wanted = [row for row in all_rows("ab", 4) if within(row, saying, lot, most)]
                self.assertEqual(rows_in(within_joins(saying, lot, most=most), 4), wanted, lot.text())
            self.assertEqual(within_joins(saying, lot, most=0), saying)
            self.assertEqual(within_joins(saying, lot), within_joins(saying, lot, most=1))
            self.assertEqual(within_joins(saying, lot), saying | one_join(saying, lot))

    def test_three_joins_also_one_inside_the_other(self):
        deep = Saying.single("ab", "aaabbb")
        rows = {most: rows_in(within_joins(deep, Lot.of("ab"), most=most), 6) for most in range(4)}
        self.assertEqual(rows, {0: ["aaabbb"], 1: ["aabb", "aaabbb"], 2: ["ab", "aabb", "aaabbb"],
                                3: ["", "ab", "aabb", "aaabbb"]})
        for saying, lot in some_pairs(133, 6, 4):
            wanted = [row for row in all_rows("ab", 2) if within(row, saying, lot, 3)]
            self.assertEqual(rows_in(within_joins(saying, lot, most=3), 2), wanted, lot.text())

    def test_edges(self):
        void, full, empty = Saying.void("ab"), Saying.full("ab"), Saying.single("ab", "")
        lot, none = Lot.of("a", "ba"), Lot([])
        for call in (one_leaving, one_join):
            self.assertEqual(call(void, lot), void)
            self.assertEqual(call(full, none), void)
        self.assertEqual(one_join(full, lot), full)
        self.assertEqual(one_join(empty, lot), void)
        self.assertEqual(one_leaving(full, lot), HAS_A)
        self.assertEqual(rows_in(one_leaving(empty, lot), 5), ["a", "ba"])
        self.assertEqual(within_joins(full, none, most=3), full)
        self.assertEqual(within_joins(void, lot, most=3), void)

    def test_groups_that_overlap_themselves(self):
        self.assertEqual(one_leaving(saying_of_text("b.*", "ab"), Lot.of("aba")),
                         saying_of_text("abab.*|b.*aba.*", "ab"))
        self.assertEqual(rows_in(one_leaving(Saying.single("ab", "ba"), Lot.of("aba")), 6),
                         ["ababa", "baaba", "babaa"])

    def test_unknown_signs(self):
        for call in (one_leaving, one_join, within_joins):
            self.refuses(UnknownSign, "d", call, HAS_A, Lot.of("aac", "bd"))
            self.refuses(UnknownSign, "c", call, Saying.void("ab"), Lot.of("c"))
        self.refuses(UnknownSign, "c", within_joins, HAS_A, Lot.of("c"), most=0)

    def test_completed_sets(self):
        rng = seeded(136)
        for size in (1, 2, 3, 4, 5):
            for saying in (random_saying(rng, "ab", size), permuting(rng, "ab", size)):
                rows = {state: set(row for row in all_rows("ab", 9) if saying.marks[saying.state_after(row, state)])
                        for state in range(saying.size)}
                for states, found in enumerate(completed_sets(saying)):
                    led = set().union(*(rows[state] for state in states_of(states)))
                    self.assertEqual(states_of(found), [state for state in rows if rows[state] <= led])

    def test_more_than_16_states(self):
        rng = seeded(137)
        saying, lot = random_saying(rng, "ab", 18), Lot.of("a", "bab")
        path = [[min(state + 1, 19), state] for state in range(20)]
        longer = Saying("ab", path, [state == 19 for state in range(20)])
        for one in (saying, longer):
            joins, leavings = one_join(one, lot), one_leaving(one, lot)
            for row in all_rows("ab", 5) + ["a" * 18, "a" * 19, "a" * 20, "ba" * 10]:
                self.assertEqual(row in joins, any(other in one for other in joined(row, lot.groups)))
                self.assertEqual(row in leavings, any(other in one for other in without_one(row, lot.groups)))

    def test_16_states(self):
        rng = seeded(134)
        saying = random_saying(rng, "abcd", 16)
        ring = Saying("ab", [[(state + 1) % 16, state] for state in range(16)], [state == 5 for state in range(16)])
        for one, lot in ((saying, random_lot(rng, "abcd", 8, 6)), (ring, Lot.of("a", "abba")),
                         (permuting(rng, "abc", 8), Lot.of("ab", "c"))):
            joins, leavings = one_join(one, lot), one_leaving(one, lot)
            for _ in range(60):
                row = "".join(rng.choice(one.signs) for _ in range(rng.randint(0, 30)))
                self.assertEqual(row in joins, any(other in one for other in joined(row, lot.groups)))
                self.assertEqual(row in leavings, any(other in one for other in without_one(row, lot.groups)))

    def test_three_joins_of_great_lots(self):
        rng = seeded(135)
        counts_a = Saying("abcd", [[1, 0, 0, 0], [2, 1, 1, 0], [3, 2, 2, 0], [3, 3, 1, 0]], [False] * 3 + [True])
        self.assertEqual(counts_a.size, 4)
        lot = random_lot(rng, "abcd", 7, 6) | Lot.of("a")
        found, fewer = within_joins(counts_a, lot, most=3), within_joins(counts_a, lot, most=2)
        for row in ("", "a", "aa", "aaa", "aaac", "dddd", "aaacd", "cab", "dacbcd"):
            self.assertEqual(row in fewer, within(row, counts_a, lot, 2))
            self.assertEqual(row in found, row in fewer or any(other in fewer for other in joined(row, lot.groups)))


if __name__ == "__main__":
    unittest.main()
