import unittest

from helpers import (GrowsCase, all_rows, joined, random_lot, random_saying, rows_in, seeded, without_one)
from stillgrows.errors import InvalidSigns, NotGrowing, NotHolding, UnknownSign
from stillgrows.growths import Growth
from stillgrows.leasts import group_free, holding_length, least_below, least_saying
from stillgrows.leaves import leave, leavings
from stillgrows.lots import Lot
from stillgrows.making import holding, scattering
from stillgrows.meanings import saying_of_text
from stillgrows.sayings import Saying
from stillgrows.spreads import plain_spread

HAS_A = Saying.read("ab: 1 0 -, 1 1 +")
LONGEST = 6


def leads_out(saying, group, longest=6):
    return any(other not in saying for row in rows_in(saying, longest) for other in joined(row, [group]))


def upward(saying, lot):
    """The saying of the rows all of whose growths are in the saying: it is closed under joins."""
    spread = plain_spread(saying, lot)
    numbers, order, table = {spread.first(): 0}, [spread.first()], []
    for ends in order:
        entry = []
        for sign in saying.signs:
            after = spread.after(ends, sign)
            if after not in numbers:
                numbers[after] = len(order)
                order.append(after)
            entry.append(numbers[after])
        table.append(entry)
    return Saying(saying.signs, table, [all(saying.marks[state] for state in ends) for ends in order])


def closed_pairs(seed, many):
    """Sayings that are closed under the joins of lots."""
    rng = seeded(seed)
    yield Saying.full("ab"), Lot([])
    yield Saying.void("ab"), Lot.of("a", "b")
    yield HAS_A, Lot.of("aba", "abab", "bb")
    yield scattering("ab", "abba"), Lot.of("a", "ab")
    yield Saying.full("ab"), Lot.of("aa", "aba")
    yield holding("ab", "aba"), Lot([])
    found = 0
    while found < many:
        lot = random_lot(rng, "ab", rng.randint(1, 3), 4)
        saying = upward(random_saying(rng, "ab", rng.randint(2, 4)), lot)
        if not saying.is_void and saying.size <= 16:
            found += 1
            yield saying, lot


class TestLeastSaying(GrowsCase):
    def test_the_example(self):
        self.assertEqual(least_saying(HAS_A, Lot.of("a", "b")), Saying.single("ab", "a"))

    def test_against_a_plain_search(self):
        for saying, lot in closed_pairs(140, 40):
            wanted = [row for row in rows_in(saying, LONGEST)
                      if not any(other in saying for other in without_one(row, lot.groups))]
            self.assertEqual(rows_in(least_saying(saying, lot), LONGEST), wanted, (saying.text(), lot.text()))

    def test_the_rows_are_those_that_grow_from_least_rows(self):
        for saying, lot in closed_pairs(141, 20):
            found = set(rows_in(least_saying(saying, lot), LONGEST))
            for row in all_rows("ab", LONGEST):
                if any(other in found for other in without_one(row, lot.groups)):
                    found.add(row)
            self.assertEqual([row for row in all_rows("ab", LONGEST) if row in found], rows_in(saying, LONGEST))

    def test_the_empty_lot_has_all_rows_as_least_ones(self):
        for text in ("a*b", "0", "(ab|c)*", "<a>"):
            saying = saying_of_text(text, "abc")
            self.assertEqual(least_saying(saying, Lot([])), saying)

    def test_the_least_rows_of_all_rows_hold_no_group(self):
        for lot in (Lot([]), Lot.of("a"), Lot.of("aa", "aba"), Lot.of("ab", "ba", "bbb")):
            self.assertEqual(least_saying(Saying.full("ab"), lot), group_free("ab", lot))

    def test_the_first_group_that_leads_out(self):
        ends_b = Saying.read("ab: 0 1 -, 0 1 +")
        self.refuses(NotGrowing, "a", least_saying, ends_b, Lot.of("ba", "b", "a"))
        self.refuses(NotGrowing, "ba", least_saying, ends_b, Lot.of("ba", "b", "bab", "bba"))
        self.assertEqual(least_saying(ends_b, Lot.of("b", "ab")), saying_of_text("a*b", "ab"))
        rng = seeded(142)
        for _ in range(60):
            saying, lot = random_saying(rng, "ab", rng.randint(2, 3)), random_lot(rng, "ab", 3, 3)
            out = [group for group in lot if leads_out(saying, group)]
            if out:
                self.refuses(NotGrowing, out[0], least_saying, saying, lot)
            else:
                self.assertLessEqual(least_saying(saying, lot), saying)

    def test_unknown_signs_come_first(self):
        ends_b = Saying.read("ab: 0 1 -, 0 1 +")
        self.refuses(UnknownSign, "d", least_saying, ends_b, Lot.of("a", "bdc"))
        self.refuses(UnknownSign, "c", least_saying, HAS_A, Lot.of("c"))

    def test_16_states(self):
        saying = scattering("abcd", "abcdabcdabcdabc")
        self.assertEqual(saying.size, 16)
        lot = Lot.of("a", "ab", "ba", "abcd", "ccc", "dddddd", "cdcdcd", "bbb")
        least = least_saying(saying, lot)
        self.assertIn("abcdabcdabcdabc", least)
        self.assertNotIn("abcdaabcdabcdabc", least)
        self.assertIn("abcdabdcdabcdabc", least)
        thirds = saying_of_text("<a.b><b.a>", "ab")
        self.assertIn("aab", least_saying(holding("abcd", "aab") | holding("abcd", "dcbaabcddcba"), Lot([])))
        self.assertEqual(thirds, least_saying(thirds, Lot([])))


class TestLeastBelow(GrowsCase):
    def plain(self, saying, lot, row):
        steps = []
        while True:
            for gap, group in leavings(row, lot):
                if leave(row, gap, group) in saying:
                    steps.insert(0, (gap, group))
                    row = leave(row, gap, group)
                    break
            else:
                return Growth(row, steps)

    def test_the_first_leavings_within_the_saying(self):
        for saying, lot in closed_pairs(143, 15):
            least = least_saying(saying, lot)
            for row in rows_in(saying, LONGEST)[:60]:
                found = least_below(saying, lot, row)
                self.same(found, self.plain(saying, lot, row))
                self.assertEqual(found.row, row)
                self.assertIn(found.start, least)

    def test_the_order_of_the_leavings(self):
        full = Saying.full("ab")
        # At gap 0 the lot order decides, and a smaller gap comes before everything else.
        self.assertEqual(least_below(full, Lot.of("aab", "a"), "aab").text(), "b: 0 a, 0 a")
        self.assertEqual(least_below(full, Lot.of("ab", "b"), "abb").text(), ": 0 b, 0 ab")
        self.assertEqual(least_below(full, Lot.of("ba", "b"), "aba").text(), "aa: 1 b")
        self.assertEqual(least_below(full, Lot.of("ab"), "aabb").text(), ": 0 ab, 1 ab")

    def test_leavings_out_of_the_saying_are_passed_over(self):
        self.assertEqual(least_below(HAS_A, Lot.of("a", "b"), "bab").text(), "a: 1 b, 0 b")
        self.assertEqual(least_below(HAS_A, Lot.of("a", "b"), "aa").text(), "a: 0 a")
        self.assertEqual(least_below(HAS_A, Lot.of("a"), "ba").text(), "ba: -")

    def test_the_saying_need_not_be_closed(self):
        odd = Saying.read("a: 1 -, 0 +")
        self.assertEqual(least_below(odd, Lot.of("a"), "aaa").text(), "aaa: -")
        self.assertEqual(least_below(odd, Lot.of("a", "aa"), "aaaaa").text(), "a: 0 aa, 0 aa")

    def test_errors_in_their_order(self):
        self.refuses(UnknownSign, "c", least_below, HAS_A, Lot.of("bc"), "bd")
        self.refuses(UnknownSign, "d", least_below, HAS_A, Lot.of("b"), "bdc")
        self.refuses(NotHolding, "bb", least_below, HAS_A, Lot.of("b"), "bb")
        self.refuses(NotHolding, "", least_below, HAS_A, Lot([]), "")

    def test_40_signs(self):
        saying = scattering("abcd", "abcdabcdabcdabc")
        lot = Lot.of("a", "b", "c", "d", "ab", "cd", "abcd", "dcba")
        found = least_below(saying, lot, "abcd" * 10)
        self.assertEqual((found.start, found.row), ("abcdabcdabcdabc", "abcd" * 10))


class TestGroupFree(GrowsCase):
    def test_group_free(self):
        rng = seeded(144)
        for signs in ("a", "ab", "abc"):
            for many in range(5):
                lot = random_lot(rng, signs, many, 4)
                wanted = [row for row in all_rows(signs, 5) if not any(group in row for group in lot)]
                self.assertEqual(rows_in(group_free(signs, lot), 5), wanted)
        self.assertEqual(group_free("ab", Lot([])), Saying.full("ab"))

    def test_holding_length(self):
        self.same(holding_length("ab", Lot.of("a", "b")), 1)
        self.same(holding_length("a", Lot.of("aaaa")), 4)
        self.same(holding_length("a", Lot.of("aaa", "aa")), 2)
        self.same(holding_length("ab", Lot.of("aa", "bb", "ab")), 3)
        self.same(holding_length("ab", Lot.of("aa", "bb")), None)
        self.same(holding_length("ab", Lot.of("a")), None)
        self.same(holding_length("abcd", Lot([])), None)
        # The longest row is `abbaab`.
        self.same(holding_length("ab", Lot.of("aaa", "bbb", "aba", "bab", "aabb")), 7)

    def test_holding_length_against_a_plain_search(self):
        rng = seeded(145)
        for _ in range(60):
            lot = random_lot(rng, "ab", 6, 3)
            free = [row for row in all_rows("ab", 9) if not any(group in row for group in lot)]
            wanted = None if len(free[-1]) == 9 else len(free[-1]) + 1
            self.same(holding_length("ab", lot), wanted)

    def test_errors_in_their_order(self):
        for call in (group_free, holding_length):
            self.refuses(InvalidSigns, "ba", call, "ba", Lot.of("z"))
            self.refuses(InvalidSigns, "", call, "", Lot([]))
            self.refuses(UnknownSign, "c", call, "ab", Lot.of("ac", "abd"))

    def test_great_lots(self):
        rng = seeded(146)
        lot = Lot(["".join(rng.choice("abcd") for _ in range(6)) for _ in range(8)])
        free = group_free("abcd", lot)
        for _ in range(200):
            row = "".join(rng.choice(lot.groups) + rng.choice("abcd") for _ in range(3))[rng.randint(1, 6):12]
            self.assertEqual(row in free, not any(group in row for group in lot))
        self.assertIsNone(holding_length("abcd", lot))
        self.assertEqual(holding_length("a", Lot.of("aaaaaa")), 6)


if __name__ == "__main__":
    unittest.main()
