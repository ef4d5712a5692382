import unittest

from helpers import GrowsCase, all_rows, permuting, random_lot, random_saying, rows_in, seeded
from stillgrows.errors import UnknownSign
from stillgrows.lots import Lot
from stillgrows.sayings import Saying
from stillgrows.spreads import Spread, plain_spread
from stillgrows.sures import may_of, may_saying, never_saying, open_saying, sure_of, sure_saying
from stillgrows.verdicts import verdict

HAS_A = Saying.read("ab: 1 0 -, 1 1 +")
BY_VERDICT = {"sure": sure_saying, "never": never_saying, "open": open_saying}


def random_spread(rng, signs, size):
    def some(most):
        return tuple(sorted(rng.sample(range(size), min(size, rng.randint(0, most)))))
    return Spread(signs, some(2), [[some(2) for _ in signs] for _ in range(size)],
                  [rng.random() < 0.5 for _ in range(size)], [some(3) for _ in range(size)])


class TestSures(GrowsCase):
    def test_against_the_verdicts(self):
        rng = seeded(180)
        seen = set()
        for _ in range(60):
            saying, lot = random_saying(rng, "ab", rng.randint(1, 5)), random_lot(rng, "ab", rng.randint(0, 3), 3)
            spread = plain_spread(saying, lot)
            told = {row: verdict(spread, row) for row in all_rows("ab", 5)}
            seen |= set(told.values())
            for word, call in BY_VERDICT.items():
                found = call(saying, lot)
                self.assertEqual(found.signs, "ab")
                self.assertEqual(rows_in(found, 5), [row for row in told if told[row] == word])
            self.assertEqual(rows_in(may_saying(saying, lot), 5), [row for row in told if told[row] != "never"])
            self.assertEqual(may_saying(saying, lot), ~never_saying(saying, lot))
            self.assertEqual(sure_of(spread), sure_saying(saying, lot))
            self.assertEqual(may_of(spread), may_saying(saying, lot))
        self.assertEqual(seen, {"sure", "never", "open"})

    def test_any_spread(self):
        rng = seeded(181)
        for size in (1, 2, 3, 5, 8):
            for _ in range(20):
                spread = random_spread(rng, "ab", size)
                sure, may = sure_of(spread), may_of(spread)
                for row in all_rows("ab", 5):
                    self.same(row in sure, verdict(spread, row) == "sure")
                    self.same(row in may, any(spread.marks[state] for state in spread.ends(row)))

    def test_rows_without_ends_are_sure(self):
        spread = Spread("ab", (0,), [[(0,), ()]], [False], [(0,)])
        self.assertEqual(sure_of(spread), Saying.read("ab: 0 1 -, 1 1 +"))
        self.assertEqual(may_of(spread), Saying.void("ab"))

    def test_edges(self):
        none, lot = Lot([]), Lot.of("a")
        self.assertEqual((sure_saying(HAS_A, none), may_saying(HAS_A, none)), (HAS_A, HAS_A))
        self.assertEqual((never_saying(HAS_A, none), open_saying(HAS_A, none)), (~HAS_A, Saying.void("ab")))
        self.assertEqual((sure_saying(HAS_A, lot), may_saying(HAS_A, lot)), (HAS_A, Saying.full("ab")))
        self.assertEqual((never_saying(HAS_A, lot), open_saying(HAS_A, lot)), (Saying.void("ab"), ~HAS_A))

    def test_unknown_signs(self):
        for call in (sure_saying, never_saying, open_saying, may_saying):
            self.refuses(UnknownSign, "d", call, HAS_A, Lot.of("a", "bdc"))

    def test_the_greatest_sizes(self):
        rng = seeded(182)
        # All sets of 16 states are the ends of rows.
        moves = [[((state + 1) % 16,), (1 - state if state < 2 else state,), (0, 1) if state == 1 else (state,),
                  () if state == 0 else (state,)] for state in range(16)]
        spread = Spread("abcd", (0,), moves, [state == 0 for state in range(16)], [(state,) for state in range(16)])
        self.assertEqual(may_of(spread).size, 65536)
        self.assertGreater(sure_of(spread).size, 10000)
        saying = permuting(rng, "abcd", 16)
        lot = Lot.of("ab")
        found = sure_saying(saying, lot)
        plain = plain_spread(saying, lot)
        for row in ("", "a", "abcd" * 50, "dcba" * 3, "a" * 15):
            self.assertEqual(row in found, verdict(plain, row) == "sure")
        self.assertEqual(may_saying(random_saying(rng, "abcd", 16), random_lot(rng, "abcd", 8, 6)).signs, "abcd")


if __name__ == "__main__":
    unittest.main()
