import unittest

from helpers import GrowsCase, all_rows, joined, moves_of, permuting, random_lot, random_saying, seeded
from stillgrows.closures import closed_over, gap_table
from stillgrows.errors import InvalidTable, InvalidText, UnknownSign, WrongCount
from stillgrows.lots import Lot
from stillgrows.papers import Paper, accepts, carried, paper_of
from stillgrows.sayings import Saying
from stillgrows.spreads import plain_spread
from stillgrows.verdicts import verdict

HAS_A = Saying.read("ab: 1 0 -, 1 1 +")


def settled(seed, many, most=4):
    """Sayings, lots, rows that are sure or never, and their least papers."""
    rng = seeded(seed)
    found = 0
    while found < many:
        saying, lot = random_saying(rng, "ab", rng.randint(2, most)), random_lot(rng, "ab", rng.randint(0, 2), 3)
        row = "".join(rng.choice("ab") for _ in range(rng.randint(0, 5)))
        paper = paper_of(saying, lot, row)
        if paper is not None and saying.size > 1:
            found += 1
            yield saying, lot, row, paper


def without(entries, at, number):
    return [[one for one in entry if (k, one) != (at, number)] for k, entry in enumerate(entries)]


class TestPaper(GrowsCase):
    def test_fields(self):
        table, sets = [[2, 0, 2], ()], ([1, 0], [], [3])
        paper = Paper("sure", table, sets)
        self.same(paper.word, "sure")
        self.same(paper.table, ((0, 2), ()))
        self.same(paper.sets, ((0, 1), (), (3,)))
        table[0].append(9)
        sets[1].append(9)
        self.assertEqual((paper.table, paper.sets), (((0, 2), ()), ((0, 1), (), (3,))))

    def test_equal(self):
        paper = Paper("sure", [[0], [1, 0]], [[0]])
        self.same(paper == Paper("sure", ((0,), (0, 1, 1)), ((0, 0),)), True)
        for other in (Paper("never", [[0], [1, 0]], [[0]]), Paper("sure", [[0], [1]], [[0]]),
                      Paper("sure", [[0], [1, 0]], [[0], [0]]), None, "sure", HAS_A):
            self.same(paper == other, False)

    def test_texts(self):
        for paper, text in ((Paper("sure", [[0], [1]], [[0], [1], [1]]), "sure; 0, 1; 0, 1, 1"),
                            (Paper("never", [[]], [[]]), "never; -; -"),
                            (Paper("never", [[10, 9, 2], [], [0]], [[], [999999999, 0]]),
                             "never; 2 9 10, -, 0; -, 0 999999999")):
            self.same(paper.text(), text)
            self.assertEqual(Paper.read(text), paper)

    def test_texts_of_papers_are_read_back(self):
        for _, _, _, paper in settled(170, 30):
            self.assertEqual(Paper.read(paper.text()), paper)

    def test_texts_that_are_no_papers(self):
        for text in ("", "sure", "sure; 0", "sure; 0; 0; 0", "open; 0; 0", "Sure; 0; 0", "sure;0; 0", "sure; 0;0",
                     "sure; ; 0", "sure; 0; ", "sure; 0 1 0; 0", "sure; 1 0; 0", "sure; 0 0; 0", "sure; 0; 2 1",
                     "sure; 00; 0", "sure; 01; 0", "sure; 0; 1000000000", "sure; -1; 0", "sure; 0; -1", "sure; +1; 0",
                     "sure; 0,1; 0", "sure; 0, ; 0", "sure; 0 ; 0", "sure; 0  1; 0", "sure; - -; 0", "sure; 0 -; 0",
                     "sure; 0; 0;", "sure; 0; 0 ", " sure; 0; 0", "sure; 0; 0\n", "sure; a; 0", "never; --; 0",
                     "sure, 0; 0", "sure; 0; 0, ", "sure; 1_0; 0", "sure; 0; \u0661"):
            self.refuses(InvalidText, text, Paper.read, text)


class TestPaperOf(GrowsCase):
    def test_the_example(self):
        paper = paper_of(HAS_A, Lot.of("b"), "ab")
        self.assertEqual(paper.text(), "sure; 0, 1; 0, 1, 1")
        self.assertEqual(paper_of(HAS_A, Lot.of("b"), "bb").text(), "never; 0, 1; 0, 0, 0")
        self.same(paper_of(HAS_A, Lot.of("a"), "b"), None)
        self.assertEqual(paper_of(HAS_A, Lot.of("a"), "ba").text(), "sure; 0 1, 1; 0 1, 0 1, 1")

    def test_the_least_paper(self):
        rng = seeded(171)
        words = set()
        for _ in range(60):
            saying, lot = random_saying(rng, "ab", rng.randint(1, 4)), random_lot(rng, "ab", rng.randint(0, 2), 3)
            spread = plain_spread(saying, lot)
            for row in all_rows("ab", 3):
                paper, told = paper_of(saying, lot, row), verdict(spread, row)
                words.add(told)
                if told == "open":
                    self.assertIsNone(paper)
                    continue
                self.same(paper, Paper(told, gap_table(moves_of(saying), lot.groups, "ab"),
                                       [spread.ends(row[:k]) for k in range(len(row) + 1)]))
                self.same(accepts(saying, lot, row, paper), True)
        self.assertEqual(words, {"sure", "never", "open"})

    def test_one_number_less_is_not_accepted(self):
        for saying, lot, row, paper in settled(172, 40):
            for at, entry in enumerate(paper.table):
                for number in entry:
                    less = Paper(paper.word, without(paper.table, at, number), paper.sets)
                    self.same(accepts(saying, lot, row, less), False)
            for at, states in enumerate(paper.sets):
                for number in states:
                    less = Paper(paper.word, paper.table, without(paper.sets, at, number))
                    self.same(accepts(saying, lot, row, less), False)

    def test_unknown_signs(self):
        self.refuses(UnknownSign, "c", paper_of, HAS_A, Lot.of("bc"), "d")
        self.refuses(UnknownSign, "d", paper_of, HAS_A, Lot.of("b"), "bdc")

    def test_the_greatest_sizes(self):
        rng = seeded(173)
        for saying in (permuting(rng, "abcd", 16), random_saying(rng, "abcd", 16)):
            full = Saying("abcd", saying.table, [True] * saying.size)
            lot = random_lot(rng, "abcd", 8, 6)
            row = "".join(rng.choice("abcd") for _ in range(200))
            paper = paper_of(full, lot, row)
            self.assertIs(accepts(full, lot, row, paper), True)
            dead = Saying("abcd", [[16 if state == 15 else to for to in entry] for state, entry in
                                   enumerate(permuting(rng, "abcd", 16).table)] + [[16] * 4], [False] * 16 + [True])
            self.assertEqual(paper_of(dead, Lot([]), "a" * 16).word, "sure")


class TestAccepts(GrowsCase):
    def test_wider_papers_are_accepted_too(self):
        # The lot `b` changes nothing, and a paper may say that it might.
        lot = Lot.of("b")
        self.same(accepts(HAS_A, lot, "ab", Paper("sure", [[0, 1], [1]], [[0, 1], [1], [1]])), True)
        self.same(accepts(HAS_A, lot, "ab", Paper("sure", [[0, 1], [1]], [[0, 1], [0, 1], [0, 1]])), False)

    def test_each_way_of_not_being_accepted(self):
        lot, sets = Lot.of("b"), [[0], [1], [1]]
        table = [[0], [1]]
        self.same(accepts(HAS_A, lot, "ab", Paper("sure", table, sets)), True)
        wrong = {"too many entries": Paper("sure", [[0], [1], [2]], sets),
                 "too few entries": Paper("sure", [[0]], sets),
                 "no entries": Paper("sure", [], sets), "a number in the table": Paper("sure", [[0], [1, 2]], sets),
                 "a number in a set": Paper("sure", table, [[0, 2], [1], [1]]),
                 "a number below 0": Paper("sure", table, [[-1, 0], [1], [1]]),
                 "a number below 0 in the table": Paper("sure", [[0], [-1, 1]], sets),
                 "a number in the last set": Paper("sure", table, [[0], [1], [1, 7]]),
                 "not closed: not its own": Paper("sure", [[0], []], sets),
                 "too few sets": Paper("sure", table, [[0], [1]]),
                 "too many sets": Paper("sure", table, sets + [[1]]), "no sets": Paper("sure", table, []),
                 "the first set": Paper("sure", table, [[1], [1], [1]]),
                 "a later set": Paper("sure", table, [[0], [0], [1]]),
                 "an empty set": Paper("sure", table, [[0], [1], []]),
                 "an unmarked state": Paper("sure", table, [[0], [1], [0, 1]]),
                 "the other word": Paper("never", table, sets)}
        for why, paper in wrong.items():
            self.same(accepts(HAS_A, lot, "ab", paper), False)
        self.same(accepts(HAS_A, Lot.of("a"), "ab", Paper("sure", table, sets)), False)
        self.same(accepts(HAS_A, lot, "bb", Paper("never", table, [[0], [0], [0]])), True)
        self.same(accepts(HAS_A, lot, "bb", Paper("never", table, [[0], [0], [0, 1]])), False)
        self.same(accepts(HAS_A, lot, "", Paper("never", table, [[0]])), True)

    def test_the_word_of_an_accepted_paper_is_the_verdict(self):
        rng = seeded(174)
        many = 0
        for saying, lot, row, paper in settled(175, 60):
            table = closed_over(saying, lot, [[rng.randrange(saying.size)] if rng.random() < 0.3 else []
                                              for _ in range(saying.size)])
            sets = [set(table[0])]
            for sign in row:
                sets.append({to for state in sets[-1] for to in table[saying.step(state, sign)]})
            for word in ("sure", "never"):
                if accepts(saying, lot, row, Paper(word, table, [list(states) for states in sets])):
                    many += 1
                    self.assertEqual(word, paper.word)
        self.assertGreater(many, 20)

    def test_unknown_signs(self):
        paper = Paper("sure", [], [])
        self.refuses(UnknownSign, "c", accepts, HAS_A, Lot.of("bc"), "d", paper)
        self.refuses(UnknownSign, "d", accepts, HAS_A, Lot.of("b"), "bdc", paper)


class TestCarried(GrowsCase):
    def test_to_rows_to_which_a_row_grows(self):
        for saying, lot, row, paper in settled(176, 30):
            for other in sorted(joined(row, lot.groups)):
                found = carried(saying, paper, other)
                self.same(accepts(saying, lot, other, found), True)
                self.assertEqual((found.word, found.table), (paper.word, paper.table))
            self.same(carried(saying, paper, row), paper)

    def test_the_sets(self):
        paper = Paper("never", [[1, 0], [1]], [[7]])
        self.same(carried(HAS_A, paper, "ba"), Paper("never", [[0, 1], [1]], [[0, 1], [0, 1], [1]]))
        self.same(carried(HAS_A, paper, ""), Paper("never", [[0, 1], [1]], [[0, 1]]))
        # The table need not be closed, and a set may be empty.
        self.same(carried(HAS_A, Paper("sure", [[], [0]], [[0]]), "a"), Paper("sure", [[], [0]], [[], []]))

    def test_errors_in_their_order(self):
        self.refuses(UnknownSign, "d", carried, HAS_A, Paper("sure", [[0]], [[0]]), "adc")
        self.refuses(WrongCount, 3, carried, HAS_A, Paper("sure", [[0], [1], [9]], [[0]]), "a")
        self.refuses(WrongCount, 1, carried, HAS_A, Paper("sure", [[9]], [[0]]), "a")
        self.refuses(InvalidTable, 1, carried, HAS_A, Paper("sure", [[0], [2]], [[0]]), "")
        self.refuses(InvalidTable, 0, carried, HAS_A, Paper("sure", [[-1], [2]], [[0]]), "")


if __name__ == "__main__":
    unittest.main()
