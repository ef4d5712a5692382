import unittest

from helpers import GrowsCase, all_rows, random_lot, random_saying, seeded
from stillgrows.bases import base
from stillgrows.derive import comes
from stillgrows.errors import InvalidSigns, UnknownSign
from stillgrows.hidden import Oracle, told_back
from stillgrows.lots import Lot
from stillgrows.sayings import Saying
from stillgrows.spreads import plain_spread
from stillgrows.verdicts import verdict

HAS_A = Saying.read("ab: 1 0 -, 1 1 +")


class Listening(Oracle):
    """An oracle that keeps the questions."""

    def __init__(self, lot):
        super().__init__(lot)
        self.questions = []

    def __call__(self, saying, row):
        self.questions.append((saying, row))
        return super().__call__(saying, row)


class TestOracle(GrowsCase):
    def test_answers_are_counted(self):
        rng = seeded(430)
        for _ in range(20):
            lot = random_lot(rng, "ab", rng.randint(0, 3), 3)
            oracle = Oracle(lot)
            self.same(oracle.asked, 0)
            for many in range(5):
                saying = random_saying(rng, "ab", 4)
                row = rng.choice(all_rows("ab", 3))
                self.same(oracle(saying, row), verdict(plain_spread(saying, lot), row))
                self.same(oracle.asked, many + 1)

    def test_the_three_answers(self):
        oracle = Oracle(Lot.of("a"))
        self.same([oracle(HAS_A, "a"), oracle(HAS_A, "b"), oracle(Saying.void("ab"), "b")], ["sure", "open", "never"])
        self.same(oracle.asked, 3)

    def test_errors_are_not_counted(self):
        oracle = Oracle(Lot.of("ab", "bdc"))
        self.refuses(UnknownSign, "d", oracle, HAS_A, "x")
        self.same(oracle.asked, 0)
        other = Oracle(Lot.of("ab"))
        other(HAS_A, "b")
        self.refuses(UnknownSign, "x", other, HAS_A, "bxy")
        self.refuses(UnknownSign, "a", other, Saying.full("b"), "x")
        self.same(other.asked, 1)


class TestToldBack(GrowsCase):
    def test_the_example(self):
        oracle = Listening(Lot.of("b", "ab", "aabb"))
        self.same(told_back(oracle, "ab", longest=2), Lot.of("b", "ab"))
        self.same(oracle.asked, 5)
        rows = ["a", "b", "aa", "ab", "ba"]
        self.assertEqual(oracle.questions, [(~Saying.single("ab", row), "") for row in rows])

    def test_the_base_of_the_short_groups(self):
        rng = seeded(431)
        for _ in range(40):
            lot = random_lot(rng, "ab", rng.randint(0, 4), 4)
            for longest in range(5):
                oracle = Listening(lot)
                found = told_back(oracle, "ab", longest=longest)
                short = base(Lot([group for group in lot if len(group) <= longest]))
                self.same(found, short)
                wanted = [row for row in all_rows("ab", longest)[1:]
                          if not comes("", row, Lot([group for group in short if (len(group), group) < (len(row), row)]))]
                self.assertEqual([saying for saying, _ in oracle.questions], [~Saying.single("ab", row) for row in wanted])
                self.same(oracle.asked, len(wanted))
            self.same(told_back(Oracle(lot), "ab"), told_back(Oracle(lot), "ab", longest=2))

    def test_questions_are_counted_on(self):
        oracle = Oracle(Lot.of("a"))
        oracle(HAS_A, "")
        self.same(told_back(oracle, "ab", longest=1), Lot.of("a"))
        self.same(oracle.asked, 3)
        self.same(told_back(oracle, "ab", longest=0), Lot([]))
        self.same(oracle.asked, 3)

    def test_a_greater_alphabet(self):
        oracle = Oracle(Lot.of("c", "a"))
        self.same(told_back(oracle, "abcd", longest=1), Lot.of("a", "c"))
        self.same(oracle.asked, 4)

    def test_errors(self):
        for signs in ("", "ba", "aa", "abcde", "aB"):
            oracle = Oracle(Lot.of("a"))
            self.refuses(InvalidSigns, signs, told_back, oracle, signs)
            self.refuses(InvalidSigns, signs, told_back, oracle, signs, longest=0)
            self.same(oracle.asked, 0)
        oracle = Oracle(Lot.of("a", "bc"))
        self.refuses(UnknownSign, "c", told_back, oracle, "ab")
        self.same(oracle.asked, 0)
        self.same(told_back(oracle, "ab", longest=0), Lot([]))

    def test_the_greatest_sizes(self):
        lot = Lot.of("a", "bcd", "dcb", "dddd", "bbcc", "ccdd", "cdcd", "abcdab")
        oracle = Oracle(lot)
        self.same(told_back(oracle, "abcd", longest=4), base(lot - Lot.of("abcdab")))


if __name__ == "__main__":
    unittest.main()
