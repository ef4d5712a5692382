import unittest

from helpers import GrowsCase, all_rows, grown, joined, random_lot, random_saying, rows_in, seeded, without_one
from stillgrows.apart import in_order
from stillgrows.errors import UnknownSign
from stillgrows.fates import core, fate, is_join_blind, no_saying, settling_growth, yes_saying
from stillgrows.lots import Lot
from stillgrows.meanings import saying_of_text
from stillgrows.sayings import Saying
from stillgrows.spreads import plain_spread
from stillgrows.sures import may_saying, never_saying, sure_saying
from stillgrows.verdicts import verdict

HAS_A = Saying.read("ab: 1 0 -, 1 1 +")
# The rows in which the number of the signs `a` is a multiple of three, plus one.
THREES = Saying.read("ab: 1 0 -, 2 1 +, 0 2 +")


def some_pairs(seed, many):
    rng = seeded(seed)
    yield HAS_A, Lot.of("a")
    yield HAS_A, Lot.of("b")
    yield HAS_A, Lot([])
    yield THREES, Lot.of("a")
    yield THREES, Lot.of("aaa", "b")
    yield saying_of_text("<aa>&~<bb>", "ab"), Lot.of("a")
    yield saying_of_text("<aa>&~<bb>", "ab"), Lot.of("a", "bb")
    yield saying_of_text("a.*", "ab"), Lot.of("ab")
    for _ in range(many):
        yield random_saying(rng, "ab", rng.randint(1, 5)), random_lot(rng, "ab", rng.randint(0, 3), 3)


def plain_fate(saying, lot, row, more=6):
    spread = plain_spread(saying, lot)
    found = {verdict(spread, other) for other in grown(row, lot.groups, len(row) + more)}
    return "yes" if "sure" in found else "no" if "never" in found else "free"


class TestFates(GrowsCase):
    def test_the_example(self):
        lot = Lot.of("a")
        self.same(fate(HAS_A, lot, ""), "yes")
        self.assertEqual(verdict(plain_spread(HAS_A, lot), ""), "open")
        self.same(core(HAS_A, lot, ""), (1,))
        self.assertEqual(settling_growth(HAS_A, lot, "").text(), ": 0 a")

    def test_a_saying_with_each_of_the_three_fates(self):
        # The first sign that is no `c` settles everything; before it the signs `c` are counted by twos.
        saying, lot = Saying.read("abc: 1 2 3 -, 1 1 1 +, 2 2 2 -, 1 2 0 +"), Lot.of("c")
        self.assertEqual([fate(saying, lot, row) for row in ("", "c", "a", "cab", "b", "ccba")],
                         ["free", "free", "yes", "yes", "no", "no"])
        self.assertEqual([core(saying, lot, row) for row in ("", "c", "a", "cab", "b", "ccba")],
                         [(0, 3), (0, 3), (1,), (1,), (2,), (2,)])
        self.assertEqual(yes_saying(saying, lot), saying_of_text("c*a.*", "abc"))
        self.assertEqual(no_saying(saying, lot), saying_of_text("c*b.*", "abc"))
        self.assertEqual([fate(THREES, Lot.of("a"), row) for row in ("", "a", "bab")], ["free"] * 3)

    def test_fates_against_a_plain_search(self):
        seen = set()
        for saying, lot in some_pairs(190, 25):
            for row in all_rows("ab", 2):
                found = fate(saying, lot, row)
                seen.add(found)
                self.same(found, plain_fate(saying, lot, row))
        self.assertEqual(seen, {"yes", "no", "free"})

    def test_fates_against_the_sayings_of_sure_and_never_rows(self):
        for saying, lot in some_pairs(191, 80):
            yes, no = yes_saying(saying, lot), no_saying(saying, lot)
            self.assertEqual(yes, may_saying(sure_saying(saying, lot), lot))
            self.assertEqual(no, may_saying(never_saying(saying, lot), lot))
            self.assertTrue((yes & no).is_void)
            for row in all_rows("ab", 4):
                wanted = "yes" if row in yes else "no" if row in no else "free"
                self.assertEqual(fate(saying, lot, row), wanted)

    def test_joins_and_leavings_do_not_change_the_fate(self):
        for saying, lot in some_pairs(192, 30):
            for row in all_rows("ab", 4):
                for other in sorted(joined(row, lot.groups) | without_one(row, lot.groups)):
                    self.assertEqual(fate(saying, lot, row), fate(saying, lot, other))

    def test_the_core_is_contained_in_all_ends(self):
        for saying, lot in some_pairs(193, 25):
            spread = plain_spread(saying, lot)
            for row in all_rows("ab", 2):
                found = core(saying, lot, row)
                self.assertIs(type(found), tuple)
                self.assertEqual(list(found), sorted(set(found)))
                ends = [set(spread.ends(other)) for other in grown(row, lot.groups, len(row) + 6)]
                self.assertTrue(all(set(found) <= one for one in ends))
                marks = {saying.marks[state] for state in found}
                wanted = "free" if len(marks) == 2 else "yes" if True in marks else "no"
                self.assertEqual(fate(saying, lot, row), wanted)

    def test_some_row_has_the_core_as_its_ends(self):
        for saying, lot in some_pairs(194, 60):
            if saying.size > 3:
                continue
            spread = plain_spread(saying, lot)
            for row in ("", "a", "b"):
                found = core(saying, lot, row)
                ends = [spread.ends(other) for other in grown(row, lot.groups, len(row) + 9)]
                self.assertIn(found, ends)

    def test_joins_inside_joins_make_the_core(self):
        # Groups `ab` side by side never make `aa`; only one inside another one does.
        saying, lot = saying_of_text("<aa>", "ab"), Lot.of("ab")
        self.assertEqual(yes_saying(saying, lot), Saying.full("ab"))
        self.same(core(saying, lot, "ba"), (2,))
        self.assertEqual(len(settling_growth(saying, lot, "")), 2)
        # A join inside `aaa` can part it again, for ever.
        self.same(fate(saying_of_text("<aaa>", "ab"), lot, "aaa"), "free")

    def test_unknown_signs(self):
        for call in (fate, core, settling_growth):
            self.refuses(UnknownSign, "c", call, HAS_A, Lot.of("bc"), "d")
            self.refuses(UnknownSign, "d", call, HAS_A, Lot.of("b"), "bdc")
        for call in (yes_saying, no_saying, is_join_blind):
            self.refuses(UnknownSign, "d", call, HAS_A, Lot.of("a", "bdc"))

    def test_the_greatest_sizes(self):
        rng = seeded(195)
        row = "".join(rng.choice("abcd") for _ in range(200))
        for _ in range(5):
            saying, lot = random_saying(rng, "abcd", 5), random_lot(rng, "abcd", 8, 6)
            yes, no = yes_saying(saying, lot), no_saying(saying, lot)
            self.assertEqual(fate(saying, lot, row), "yes" if row in yes else "no" if row in no else "free")
            self.assertLessEqual(set(core(saying, lot, row)), set(plain_spread(saying, lot).ends(row)))


class TestSettling(GrowsCase):
    def test_against_a_plain_search(self):
        for saying, lot in some_pairs(196, 30):
            spread = plain_spread(saying, lot)
            for row in all_rows("ab", 2):
                growth = settling_growth(saying, lot, row)
                self.assertEqual(growth is None, fate(saying, lot, row) == "free")
                if growth is None:
                    continue
                self.assertEqual((growth.start, growth), (row, in_order(growth)))
                self.assertTrue(all(group in lot for _, group in growth))
                self.assertNotEqual(verdict(spread, growth.row), "open")
                level = {row}
                for _ in range(min(len(growth), 4)):
                    self.assertTrue(all(verdict(spread, other) == "open" for other in level))
                    level = {other for before in level for other in joined(before, lot.groups)}

    def test_edges(self):
        self.assertEqual(settling_growth(HAS_A, Lot.of("b"), "bb").text(), "bb: -")
        self.same(settling_growth(THREES, Lot.of("a"), ""), None)
        self.assertEqual(settling_growth(HAS_A, Lot([]), "").text(), ": -")


class TestJoinBlind(GrowsCase):
    def test_against_the_rows(self):
        seen = set()
        for saying, lot in some_pairs(198, 40):
            rows = all_rows("ab", 4)
            blind = all((u + v in saying) == (u + b + v in saying) for b in lot for u in rows for v in rows)
            self.same(is_join_blind(saying, lot), blind)
            seen.add(blind)
        self.assertEqual(seen, {True, False})

    def test_edges(self):
        self.same(is_join_blind(THREES, Lot.of("b", "aaa", "abaabb")), True)
        self.same(is_join_blind(THREES, Lot.of("b", "ab")), False)
        self.same(is_join_blind(HAS_A, Lot([])), True)
        self.same(is_join_blind(HAS_A, Lot.of("b")), True)
        self.same(is_join_blind(HAS_A, Lot.of("b", "a")), False)

    def test_60_states(self):
        ring = Saying("ab", [[(state + 1) % 60, (state + 30) % 60] for state in range(60)],
                      [state == 1 for state in range(60)])
        self.same(is_join_blind(ring, Lot.of("bb", "abba")), False)
        self.same(is_join_blind(ring, Lot.of("bb", "bbbb", "bbbbbb")), True)


if __name__ == "__main__":
    unittest.main()
