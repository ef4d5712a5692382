import unittest

from helpers import GrowsCase, all_rows, random_lot, random_saying, permuting, seeded
from stillgrows.chains import all_chains, chain_saying
from stillgrows.days import Day
from stillgrows.errors import UnknownSign
from stillgrows.lots import Lot
from stillgrows.reports import boards_report, chains_report, counts_report, rows_report
from stillgrows.rules import Rule
from stillgrows.sayings import Saying
from stillgrows.spreads import plain_spread
from stillgrows.verdicts import verdict
from test_days import some_days

HAS_A = Saying.read("ab: 1 0 -, 1 1 +")
LOT = Lot.of("a", "ab")


class TestRows(GrowsCase):
    def test_line_by_line(self):
        day = Day(3, "", Rule(), LOT)
        self.same(rows_report(day), ["station   heard waiting  row",
                                     "0             0       0  -",
                                     "1             0       0  -",
                                     "2             0       0  -"])
        for _ in range(11):
            day.speak(0, 0, "ab")
        day.hear(1, (0, 11), (0, 1), (0, 9), (0, 3))
        day.hear(2, *[(0, number) for number in range(2, 12)])
        self.same(rows_report(day), ["station   heard waiting  row",
                                     "0            11       0  " + "ab" * 11,
                                     "1             1       3  ab",
                                     "2             0      10  -"])

    def test_random_days(self):
        for _, day in some_days(470, 12):
            lines = rows_report(day)
            self.assertEqual(len(lines), day.count + 1)
            for station, line in zip(day.stations, lines[1:]):
                self.same(line[:25], "{:<8}{:>7}{:>8}  ".format(station.index, len(station.heard), station.waiting))
                self.same(line[25:], station.row or "-")


class TestBoards(GrowsCase):
    def test_line_by_line(self):
        day = Day(3, "b", Rule(), LOT)
        self.same(boards_report(day), ["name              0      1      2"])
        day.watch("zz", HAS_A)
        day.watch("abcdefghijkl", ~HAS_A)
        day.watch("m", Saying.full("ab"))
        day.speak(1, 0, "a")
        self.same(boards_report(day), ["name              0      1      2",
                                       "zz             open   sure   open",
                                       "abcdefghijkl   open  never   open",
                                       "m              sure   sure   sure"])
        self.same(boards_report(Day(1, "", Rule(), LOT)), ["name              0"])
        self.same(boards_report(Day(6, "", Rule(), LOT)), ["name        " + "".join("      %d" % at for at in range(6))])

    def test_contents_longer_than_their_column(self):
        day = Day(2, "b", Rule(), LOT)
        day.watch("abcdefghijklmno", HAS_A)
        self.same(boards_report(day)[1], "abcdefghijklmno   open   open")


class TestChains(GrowsCase):
    def test_line_by_line(self):
        self.same(chains_report(HAS_A, Lot.of("a"), "b"), ["plain          no",
                                                           "sure           no",
                                                           "may           yes",
                                                           "sure may      yes",
                                                           "may sure      yes",
                                                           "not           yes",
                                                           "not sure      yes",
                                                           "not may        no",
                                                           "not sure may   no",
                                                           "not may sure   no"])

    def test_against_the_chains(self):
        rng = seeded(471)
        for _ in range(12):
            saying, lot = random_saying(rng, "ab", 5), random_lot(rng, "ab", 2, 3)
            for row in ("", "a", "bab"):
                wanted = ["yes" if row in chain_saying(saying, lot, chain) else "no" for chain in all_chains()]
                lines = chains_report(saying, lot, row)
                self.same([line.split(" ")[-1] for line in lines], wanted)
                self.same([line[:13].rstrip() for line in lines], [" ".join(chain) or "plain" for chain in all_chains()])
                self.assertEqual({len(line) for line in lines}, {17})

    def test_unknown_signs(self):
        self.refuses(UnknownSign, "d", chains_report, HAS_A, Lot.of("a", "bdc"), "x")
        self.refuses(UnknownSign, "x", chains_report, HAS_A, Lot.of("a"), "bxy")
        self.refuses(UnknownSign, "x", chains_report, HAS_A, Lot([]), "x")


class TestCounts(GrowsCase):
    def test_line_by_line(self):
        self.same(counts_report(HAS_A, Lot.of("a"), 3), ["length       sure       open      never",
                                                         "     0          0          1          0",
                                                         "     1          1          1          0",
                                                         "     2          3          1          0",
                                                         "     3          7          1          0"])
        self.same(counts_report(HAS_A, Lot.of("b"), 10)[-1], "    10      1,023          0          1")
        self.same(counts_report(HAS_A, Lot([]), 0), ["length       sure       open      never",
                                                     "     0          0          0          1"])
        self.same(counts_report(Saying.full("ab"), Lot([]), 30)[-1], "    301,073,741,824          0          0")
        self.same(counts_report(Saying.void("abcd"), Lot([]), 30)[-1],
                  "    30          0          01,152,921,504,606,846,976")
        self.same(counts_report(Saying.full("abc"), Lot([]), 13)[-1], "    13  1,594,323          0          0")

    def test_against_the_verdicts(self):
        rng = seeded(472)
        for _ in range(25):
            saying, lot = random_saying(rng, "ab", 6), random_lot(rng, "ab", rng.randint(0, 2), 3)
            spread = plain_spread(saying, lot)
            wanted = ["length       sure       open      never"]
            for length in range(7):
                told = [verdict(spread, row) for row in all_rows("ab", length) if len(row) == length]
                wanted.append("{:>6}{:>11}{:>11}{:>11}".format(length, *map(told.count, ("sure", "open", "never"))))
            self.same(counts_report(saying, lot, 6), wanted)

    def test_unknown_signs(self):
        self.refuses(UnknownSign, "d", counts_report, HAS_A, Lot.of("a", "bdc"), 3)
        self.refuses(UnknownSign, "c", counts_report, HAS_A, Lot.of("c"), 0)

    def test_the_greatest_sizes(self):
        rng = seeded(473)
        # The group adds one state to the ends, and the other signs turn them into many sets.
        columns = [[(at + 1) % 16 for at in range(16)], [1, 0] + list(range(2, 16)), [3] + list(range(1, 16))]
        many = Saying("abc", list(zip(*columns)), [at < 8 for at in range(16)])
        for saying, lot in ((many, Lot.of("c")), (permuting(rng, "abcd", 16), random_lot(rng, "abcd", 8, 6))):
            lines = counts_report(saying, lot, 30)
            self.assertEqual(len(lines), 32)
            counts = [int(number.replace(",", "")) for number in lines[11].split()]
            self.assertEqual((counts[0], sum(counts[1:])), (10, len(saying.signs) ** 10))


if __name__ == "__main__":
    unittest.main()
