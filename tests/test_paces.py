import itertools
import unittest

from helpers import (GrowsCase, all_rows, doubled, grown_at_pace, permuting, random_lot, random_saying, seeded)
from stillgrows.errors import UnknownSign, WrongCount
from stillgrows.lots import Lot
from stillgrows.paces import paced_spread, same_pace, squeezed, stretched
from stillgrows.sayings import Saying
from stillgrows.spreads import Spread, plain_spread

# The rows without two signs `a` side by side.
NO_AA = Saying.read("ab: 1 0 +, 2 0 +, 2 2 -")
PACES = ("", "a", "b", "ab", "ba", "aab")


def some_pairs(seed, many, signs="ab"):
    rng = seeded(seed)
    for lot in (Lot([]), Lot.of("a"), Lot.of("ab"), Lot.of("b", "aa")):
        yield NO_AA, lot
    for _ in range(many):
        yield random_saying(rng, signs, rng.randint(1, 5)), random_lot(rng, signs, rng.randint(0, 3), 3)


def plain_paced(saying, lot, paced):
    """The parts `moves` and `gap` of the spread at a pace, by rounds over relations of states."""
    states = range(saying.size)

    def through(one, two):
        return {(p, q) for p, r in one for s, q in two if r == s}

    steps = {sign: {(p, saying.step(p, sign)) for p in states} for sign in saying.signs}
    led, filled, before = dict(steps), {(p, p) for p in states}, None
    while before != (led, filled):
        before = dict(led), set(filled)
        for sign in set(paced):
            led[sign] = led[sign] | through(through(led[sign], filled), steps[sign])
        for group in lot:
            walks = led[group[0]]
            for sign in group[1:]:
                walks = through(through(walks, filled), led[sign])
            filled = filled | through(filled, walks)
    moves = tuple(tuple(tuple(sorted(q for r, q in led[sign] if r == p)) for sign in saying.signs) for p in states)
    return moves, tuple(tuple(sorted(q for r, q in filled if r == p)) for p in states)


class TestRows(GrowsCase):
    def test_squeezed(self):
        self.same(squeezed("aabbbaac", "a"), "abbbac")
        self.same(squeezed("aabbbaac", "bab"), "abac")
        self.same(squeezed("aabbbaac", "c"), "aabbbaac")
        self.same(squeezed("aabb", ""), "aabb")
        self.same(squeezed("", "a"), "")
        self.same(squeezed("zzyz", "xyz"), "zyz")
        for row in all_rows("abc", 5):
            for paced in ("", "a", "ca"):
                blocks = ["".join(block) for _, block in itertools.groupby(row)]
                wanted = "".join(block[0] if block[0] in paced else block for block in blocks)
                self.assertEqual(squeezed(row, paced), wanted)

    def test_same_pace(self):
        for row, other in itertools.product(all_rows("ab", 4), repeat=2):
            for paced in PACES:
                both = set(grown_at_pace(row, (), paced, 8)) & set(grown_at_pace(other, (), paced, 8))
                self.same(same_pace(row, other, paced), bool(both))
        self.same(same_pace("aab", "abb", "a"), False)
        self.same(same_pace("aab", "abb", "ba"), True)
        self.same(same_pace("", "a", "a"), False)

    def test_stretched(self):
        self.same(stretched("abc", (2, 1, 3)), "aabccc")
        self.same(stretched("abc", [2, 1, 3], only="ca"), "aabccc")
        self.same(stretched("abc", [2, 4, 3], only="ca"), "aabccc")
        self.same(stretched("abc", [2, 4, 3], only=""), "abc")
        self.same(stretched("aa", [1, 20]), "a" * 21)
        self.same(stretched("", []), "")
        times = [2, 3]
        stretched("ab", times, only="a")
        self.assertEqual(times, [2, 3])

    def test_stretched_refuses_a_wrong_number_of_times(self):
        self.refuses(WrongCount, 2, stretched, "abc", [1, 1])
        self.refuses(WrongCount, 4, stretched, "abc", (1, 1, 1, 1), only="")
        self.refuses(WrongCount, 0, stretched, "a", [])
        self.refuses(WrongCount, 1, stretched, "", [1])

    def test_stretched_rows_have_the_same_pace(self):
        rng = seeded(330)
        for row in all_rows("ab", 4):
            times = [rng.randint(1, 4) for _ in row]
            for paced in ("a", "ab"):
                self.same(same_pace(row, stretched(row, times, only=paced), paced), True)


class TestSpread(GrowsCase):
    def test_the_examples(self):
        spread = paced_spread(NO_AA, Lot([]), "a")
        self.same(spread.moves[0][0], (1, 2))
        self.same(spread.ends("ab"), (0, 2))
        self.same(paced_spread(NO_AA, Lot.of("b"), "a").ends("a"), (0, 1, 2))

    def test_the_fields(self):
        for saying, lot in some_pairs(331, 40):
            for paced in PACES:
                moves, gap = plain_paced(saying, lot, paced)
                wanted = Spread(saying.signs, (0,), moves, saying.marks, gap)
                spread = paced_spread(saying, lot, paced)
                self.assertEqual(spread, wanted)
                self.assertEqual((spread.signs, spread.starts, spread.marks), (saying.signs, (0,), saying.marks))

    def test_ends_against_a_plain_search(self):
        for saying, lot in some_pairs(332, 8):
            for paced in ("a", "ab"):
                spread = paced_spread(saying, lot, paced)
                for row in ("", "a", "ba"):
                    found = {saying.state_after(other) for other in grown_at_pace(row, lot.groups, paced, 8)}
                    ends = spread.ends(row)
                    self.assertLessEqual(found, set(ends))
                    if saying.size <= 3:
                        self.assertEqual(found, set(ends), (saying.text(), lot.text(), paced, row))

    def test_groups_between_the_two_signs_of_a_doubling(self):
        # Only the row `aba` is in the saying: `b` joins between the two signs.
        saying = Saying.single("ab", "aba")
        for lot, paced, wanted in ((Lot.of("b"), "a", True), (Lot.of("b"), "", False), (Lot.of("b"), "b", False),
                                   (Lot([]), "a", False), (Lot.of("bb"), "a", False)):
            spread = paced_spread(saying, lot, paced)
            self.assertEqual(any(saying.marks[state] for state in spread.ends("a")), wanted)
        # In the group `ab` its `a` is doubled, and in between joins the group again.
        deep = Saying.single("ab", "aabab")
        self.assertTrue(any(deep.marks[state] for state in paced_spread(deep, Lot.of("ab"), "a").gap[0]))
        self.assertFalse(any(deep.marks[state] for state in paced_spread(deep, Lot.of("ab"), "b").gap[0]))

    def test_signs_that_joined_may_be_doubled(self):
        saying = Saying.single("ab", "abb")
        self.assertIn(saying.state_after("abb"), paced_spread(saying, Lot.of("b"), "b").ends("a"))
        self.assertIn(saying.state_after("abb"), paced_spread(saying, Lot.of("ab"), "b").gap[0])
        self.assertNotIn(saying.state_after("abb"), paced_spread(saying, Lot.of("ab"), "a").gap[0])

    def test_paced_signs_in_any_order_and_twice(self):
        for saying, lot in some_pairs(333, 10):
            self.same(paced_spread(saying, lot, "ba") == paced_spread(saying, lot, "abab"), True)
            self.same(paced_spread(saying, lot, "aa") == paced_spread(saying, lot, "a"), True)

    def test_no_paced_sign(self):
        for saying, lot in some_pairs(334, 30):
            self.same(paced_spread(saying, lot, "") == plain_spread(saying, lot), True)

    def test_errors_in_their_order(self):
        lot = Lot.of("d", "ae")
        self.refuses(UnknownSign, "c", paced_spread, NO_AA, lot, "acx")
        self.refuses(UnknownSign, "d", paced_spread, NO_AA, lot, "ab")
        self.refuses(UnknownSign, "e", paced_spread, NO_AA, Lot.of("aae", "bbd", "aaa"), "")
        self.refuses(UnknownSign, "x", paced_spread, NO_AA, Lot([]), "xa")

    def test_the_greatest_sizes(self):
        rng = seeded(335)
        for saying in (permuting(rng, "abcd", 16), random_saying(rng, "abcd", 16)):
            lot = random_lot(rng, "abcd", 8, 6)
            spread = paced_spread(saying, lot, "dcba")
            moves, gap = plain_paced(saying, lot, "abcd")
            self.assertEqual((spread.moves, spread.gap), (moves, gap))


class TestDoubling(GrowsCase):
    def test_a_doubling_is_a_join_behind_its_sign(self):
        self.assertEqual(doubled("aba", "a"), {"aaba", "abaa"})
        for row in all_rows("ab", 4):
            self.assertEqual(doubled(row, "b"), {row[:k + 1] + "b" + row[k + 1:] for k in range(len(row)) if row[k] == "b"})


if __name__ == "__main__":
    unittest.main()
