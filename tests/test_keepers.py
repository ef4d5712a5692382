import itertools
import unittest

from helpers import GrowsCase, all_rows, grown, permuting, random_saying, rows_in, seeded
from stillgrows.bases import base, covers
from stillgrows.derive import comes
from stillgrows.errors import GapOutOfRange, InvalidGroup, UnknownSign
from stillgrows.keepers import fitting, keeping, lost_by, neutral, widest_lot
from stillgrows.lots import Lot
from stillgrows.meanings import saying_of_text
from stillgrows.sayings import Saying
from stillgrows.spreads import plain_spread
from stillgrows.verdicts import verdict

HAS_A = Saying.read("ab: 1 0 -, 1 1 +")
# All rows but those of one sign.
NOT_ONE = Saying.read("ab: 1 1 +, 2 2 -, 2 2 +")


def some_sayings(seed, many, most=4):
    rng = seeded(seed)
    for text in ("<a>", "~<a>", "(..)*", ".*b", "a.*", "(ab)*", "~<aa>", "0", ".*", "1", "<a>&<b>", "a*b*"):
        yield saying_of_text(text, "ab")
    yield NOT_ONE
    for _ in range(many):
        yield random_saying(rng, "ab", rng.randint(1, most))


def put(row, gap, word):
    return row[:gap] + word + row[gap:]


class TestFitting(GrowsCase):
    def test_against_its_meaning(self):
        for saying in some_sayings(410, 20, 6):
            for row in all_rows("ab", 3):
                for gap in range(len(row) + 1):
                    answer = fitting(saying, row, gap)
                    self.assertEqual(answer.signs, "ab")
                    self.assertEqual(rows_in(answer, 4), [word for word in all_rows("ab", 4)
                                                          if put(row, gap, word) in saying])

    def test_errors_in_their_order(self):
        self.refuses(UnknownSign, "d", fitting, HAS_A, "adc", 9)
        for gap in (-1, 3):
            self.refuses(GapOutOfRange, gap, fitting, HAS_A, "ab", gap)
        self.refuses(GapOutOfRange, 1, fitting, HAS_A, "", 1)
        self.same(fitting(HAS_A, "", 0), HAS_A)

    def test_the_greatest_sizes(self):
        rng = seeded(411)
        saying = permuting(rng, "abcd", 60)
        row = "".join(rng.choice("abcd") for _ in range(200))
        for gap in (0, 77, 200):
            answer = fitting(saying, row, gap)
            for word in ("", "a", "dcb", row):
                self.assertEqual(word in answer, put(row, gap, word) in saying)


class TestKeeping(GrowsCase):
    def test_against_their_meaning(self):
        sizes = set()
        for saying in some_sayings(412, 40):
            around = list(itertools.product(all_rows("ab", 3), all_rows("ab", 4)))
            within = [(u, v) for u, v in around if u + v in saying]
            beyond = [(u, v) for u, v in around if u + v not in saying]
            keeps = [word for word in all_rows("ab", 3) if all(u + word + v in saying for u, v in within)]
            leaves = [word for word in keeps if not any(u + word + v in saying for u, v in beyond)]
            self.assertEqual(rows_in(keeping(saying), 3), keeps, saying.text())
            self.assertEqual(rows_in(neutral(saying), 3), leaves, saying.text())
            self.assertTrue(neutral(saying) <= keeping(saying))
            self.assertEqual(neutral(~saying), neutral(saying))
            sizes.add((len(keeps) > 1, len(leaves) > 1))
        self.assertEqual(sizes, {(True, True), (True, False), (False, False)})

    def test_the_empty_row(self):
        for saying in some_sayings(413, 20):
            self.same("" in keeping(saying), True)
            self.same("" in neutral(saying), True)

    def test_some(self):
        self.same(keeping(HAS_A), Saying.full("ab"))
        self.same(neutral(HAS_A), saying_of_text("b*", "ab"))
        self.same(keeping(~HAS_A), saying_of_text("b*", "ab"))
        self.same(keeping(saying_of_text("1", "ab")), saying_of_text("1", "ab"))
        self.same(keeping(Saying.void("ac")), Saying.full("ac"))
        self.same(neutral(Saying.full("ac")), Saying.full("ac"))
        self.same(keeping(NOT_ONE), saying_of_text("~(.)", "ab"))

    def test_the_greatest_sizes(self):
        rng = seeded(414)
        for make in (permuting, random_saying):
            for _ in range(6):
                saying = make(rng, "abcd", 4)
                self.assertTrue(neutral(saying) <= keeping(saying))


class TestLost(GrowsCase):
    def test_against_a_plain_search(self):
        answers = set()
        for saying in some_sayings(415, 40):
            for group in ("a", "b", "ab", "bb", "aba"):
                found = [(row, gap) for row in rows_in(saying, 5) for gap in range(len(row) + 1)
                         if put(row, gap, group) not in saying]
                self.same(lost_by(saying, group), found[0] if found else None)
                self.assertEqual(lost_by(saying, group) is None, group in keeping(saying))
                answers.add(found[0] if found else None)
        self.assertGreater(len(answers), 6)

    def test_the_first_row_and_the_first_gap(self):
        self.same(lost_by(~HAS_A, "ba"), ("", 0))
        self.same(lost_by(saying_of_text("a.*", "ab"), "b"), ("a", 0))
        self.same(lost_by(saying_of_text(".*b", "ab"), "a"), ("b", 1))
        self.same(lost_by(~saying_of_text("<aa>", "ab"), "a"), ("a", 0))
        self.same(lost_by(~saying_of_text("<bab>", "ab"), "a"), ("bb", 1))
        self.same(lost_by(HAS_A, "bab"), None)

    def test_errors_in_their_order(self):
        self.refuses(InvalidGroup, "", lost_by, HAS_A, "")
        self.refuses(InvalidGroup, "cA", lost_by, HAS_A, "cA")
        self.refuses(UnknownSign, "d", lost_by, HAS_A, "adc")

    def test_the_greatest_sizes(self):
        rng = seeded(416)
        for make in (permuting, random_saying):
            for group in ("abcdab", "dddddd", "c"):
                saying = make(rng, "abcd", 4)
                lost = lost_by(saying, group)
                if lost is not None:
                    self.assertIn(lost[0], saying)
                    self.assertNotIn(put(lost[0], lost[1], group), saying)


class TestWidest(GrowsCase):
    def test_by_its_words(self):
        for saying in some_sayings(417, 30):
            for longest in range(4):
                groups = []
                for word in all_rows("ab", longest)[1:]:
                    if lost_by(saying, word) is None and word not in grown("", groups, len(word)):
                        groups.append(word)
                self.same(widest_lot(saying, longest=longest), Lot(groups))
            self.same(widest_lot(saying), widest_lot(saying, longest=2))
            self.same(widest_lot(saying, longest=0), Lot([]))

    def test_the_alphabet_may_have_one_sign(self):
        self.same(widest_lot(saying_of_text("(aa)*", "a"), longest=3), Lot.of("aa"))
        self.same(widest_lot(saying_of_text("(aaa)*", "a"), longest=3), Lot.of("aaa"))
        self.same(widest_lot(saying_of_text("(aaa)*", "a")), Lot([]))

    def test_what_is_closed_is_covered(self):
        for saying in some_sayings(418, 10):
            lot = widest_lot(saying, longest=3)
            for groups in itertools.combinations(all_rows("ab", 3)[1:], 2):
                closed = all(lost_by(saying, group) is None for group in groups)
                self.assertEqual(closed, covers(lot, Lot(groups)))

    def test_a_lot_with_more_than_eight_groups(self):
        lot = widest_lot(NOT_ONE, longest=3)
        self.same(lot.text(), "aa ab ba bb aaa aab aba abb baa bab bba bbb")
        self.assertEqual(base(lot), lot)
        self.assertTrue(comes("", "ababab", lot))
        spread = plain_spread(NOT_ONE, lot)
        self.same([verdict(spread, row) for row in ("", "a", "ab")], ["sure", "open", "sure"])


if __name__ == "__main__":
    unittest.main()
