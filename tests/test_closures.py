import unittest

from helpers import (GrowsCase, grown, moves_of, permuting, plain_closure, random_lot, random_saying, seeded)
from stillgrows.closures import closed_over, gap_table, is_closed
from stillgrows.errors import InvalidTable, UnknownSign, WrongCount
from stillgrows.lots import Lot
from stillgrows.sayings import Saying

HAS_A = Saying.read("ab: 1 0 -, 1 1 +")


def ones(size):
    return [[state] for state in range(size)]


def random_entries(rng, size):
    """Entries in any order, with duplicates, and some of them empty."""
    return [[rng.randrange(size) for _ in range(rng.choice((0, 0, 1, 2, 4)))] for _ in range(size)]


def random_moves(rng, signs, size):
    def some():
        return tuple(sorted(rng.sample(range(size), min(size, rng.choice((0, 1, 1, 2))))))
    return [[some() for _ in signs] for _ in range(size)]


class TestGapTable(GrowsCase):
    def test_the_examples(self):
        self.assertEqual(gap_table(moves_of(HAS_A), ["b"], "ab"), ((0,), (1,)))
        self.assertEqual(gap_table(moves_of(HAS_A), ("a",), "ab"), ((0, 1), (1,)))
        self.assertEqual(gap_table(moves_of(HAS_A), [], "ab"), ((0,), (1,)))

    def test_the_fillings_lead_there(self):
        rng = seeded(110)
        for _ in range(40):
            saying, lot = random_saying(rng, "ab", rng.randint(2, 4)), random_lot(rng, "ab", rng.randint(0, 2), 2)
            table = gap_table(moves_of(saying), lot.groups, "ab")
            fillings = grown("", lot.groups, 9)
            for state in range(saying.size):
                found = {saying.state_after(filling, state) for filling in fillings}
                self.assertLessEqual(found, set(table[state]))
                if saying.size < 4:
                    self.assertEqual(tuple(sorted(found)), table[state])

    def test_against_rounds_over_all_groups(self):
        rng = seeded(111)
        for size in (1, 2, 3, 5, 8, 12):
            for signs in ("a", "ab", "abcd"):
                for _ in range(6):
                    groups = ["".join(rng.choice(signs) for _ in range(rng.randint(1, 6)))
                              for _ in range(rng.randint(0, 4))]
                    moves = random_moves(rng, signs, size)
                    self.same(gap_table(moves, groups, signs), plain_closure(moves, groups, signs, ones(size)))

    def test_signs_that_lead_to_several_states_or_to_none(self):
        moves = [[(1, 2), ()], [(), (3,)], [(0,), (2,)], [(), ()]]
        self.assertEqual(gap_table(moves, ["ab"], "ab"), ((0, 2, 3), (1,), (2,), (3,)))
        self.assertEqual(gap_table(moves, ["a"], "ab"), ((0, 1, 2), (1,), (0, 1, 2), (3,)))
        self.assertEqual(gap_table(moves, ["bb"], "ab"), ((0,), (1,), (2,), (3,)))
        self.assertEqual(gap_table([[()]], ["a"], "a"), ((0,),))

    def test_groups_inside_groups(self):
        # Only `ab` around `ab` and so on leads past the middle: as many `a` as `b`.
        moves = [[(1,), ()], [(2,), ()], [(), (3,)], [(), (4,)], [(), ()]]
        self.assertEqual(gap_table(moves, ["ab"], "ab"), ((0, 4), (1, 3), (2,), (3,), (4,)))
        self.assertEqual(gap_table(tuple(map(tuple, moves)), ("ab", "ab"), "ab")[0], (0, 4))

    def test_the_first_unknown_sign_in_the_given_order(self):
        moves = moves_of(HAS_A)
        self.refuses(UnknownSign, "d", gap_table, moves, ["ab", "bd", "c"], "ab")
        self.refuses(UnknownSign, "c", gap_table, moves, ["c", "d", "a"], "ab")

    def test_the_greatest_sizes(self):
        rng = seeded(112)
        groups = ["".join(rng.choice("abcd") for _ in range(6)) for _ in range(8)]
        table = gap_table(random_moves(rng, "abcd", 100), groups, "abcd")
        self.assertEqual(len(table), 100)
        self.assertTrue(all(state in entry for state, entry in enumerate(table)))
        # As many joins as two circles of 49 and 51 states need, one inside the other.
        moves = ([[((at + 1) % 49,), (49,)] for at in range(49)]
                 + [[(), (49 + (at + 1) % 51,)] for at in range(51)])
        table = gap_table(moves, ["ab"], "ab")
        self.assertEqual(table[0], (0,) + tuple(range(49, 100)))


class TestClosed(GrowsCase):
    def test_least_closed_tables(self):
        rng = seeded(113)
        for _ in range(60):
            saying, lot = random_saying(rng, "ab", rng.randint(1, 6)), random_lot(rng, "ab", rng.randint(0, 3), 4)
            entries = random_entries(rng, saying.size)
            wanted = plain_closure(moves_of(saying), lot.groups, "ab", entries)
            found = closed_over(saying, lot, entries)
            self.same(found, wanted)
            self.same(is_closed(saying, lot, found), True)
            self.assertEqual(closed_over(saying, lot, found), found)
            self.same(is_closed(saying, lot, entries),
                      tuple(tuple(sorted(set(entry))) for entry in entries) == wanted)

    def test_the_gap_table_is_the_least_one(self):
        rng = seeded(114)
        for _ in range(30):
            saying, lot = random_saying(rng, "ab", rng.randint(2, 5)), random_lot(rng, "ab", 2, 3)
            gap = gap_table(moves_of(saying), lot.groups, "ab")
            self.assertEqual(closed_over(saying, lot, [[] for _ in gap]), gap)
            self.assertIs(is_closed(saying, lot, gap), True)
            wider = closed_over(saying, lot, random_entries(rng, saying.size))
            self.assertTrue(all(set(entry) <= set(wide) for entry, wide in zip(gap, wider)))

    def test_one_number_less_is_not_closed(self):
        rng = seeded(115)
        for _ in range(20):
            saying, lot = random_saying(rng, "ab", rng.randint(2, 4)), random_lot(rng, "ab", 2, 3)
            gap = gap_table(moves_of(saying), lot.groups, "ab")
            for at, entry in enumerate(gap):
                for state in entry:
                    less = [[to for to in one if (k, to) != (at, state)] for k, one in enumerate(gap)]
                    self.same(is_closed(saying, lot, less), False)

    def test_order_and_duplicates_do_not_matter(self):
        lot = Lot.of("a")
        self.assertIs(is_closed(HAS_A, lot, [[1, 0, 1], (1,)]), True)
        self.assertIs(is_closed(HAS_A, lot, ([1, 0], [1, 0])), True)
        self.assertEqual(closed_over(HAS_A, lot, [[1, 1], [0, 0, 1]]), ((0, 1), (0, 1)))

    def test_a_table_without_joins_need_not_lead_on(self):
        # Without groups nothing is asked for but that each state is in its own entry.
        saying = Saying.read("ab: 1 0 -, 2 1 -, 2 2 +")
        self.assertIs(is_closed(saying, Lot([]), [[0, 1], [1, 2], [2]]), True)
        self.assertEqual(closed_over(saying, Lot([]), [[1], [2], []]), ((0, 1), (1, 2), (2,)))
        self.assertIs(is_closed(saying, Lot([]), [[0, 1], [2], [2]]), False)

    def test_fillings_stand_before_the_first_sign_too(self):
        # From 0 the table leads to 2, and from there the group leads to 3.
        saying = Saying.read("ab: 0 1 -, 1 2 -, 3 1 -, 3 3 +")
        self.assertEqual(saying.size, 4)
        self.assertEqual(closed_over(saying, Lot.of("a"), [[2], [], [], []]), ((0, 2, 3), (1,), (2, 3), (3,)))

    def test_errors_in_their_order(self):
        lot = Lot.of("c", "a")
        for call in (closed_over, is_closed):
            self.refuses(UnknownSign, "c", call, HAS_A, lot, [])
            self.refuses(UnknownSign, "c", call, HAS_A, Lot.of("bc", "aad"), [[0], [7]])
            self.refuses(WrongCount, 3, call, HAS_A, Lot.of("a"), [[0], [1], [9]])
            self.refuses(WrongCount, 1, call, HAS_A, Lot.of("a"), [[-1]])
            self.refuses(WrongCount, 0, call, HAS_A, Lot([]), [])
            self.refuses(InvalidTable, 1, call, HAS_A, Lot.of("a"), [[0], [1, 2]])
            self.refuses(InvalidTable, 0, call, HAS_A, Lot.of("a"), [[-1], [2]])

    def test_nothing_is_changed(self):
        table, moves, groups = [[1, 0, 1], []], [[(1,), (0,)], [(1,), (1,)]], ["b", "a"]
        closed_over(HAS_A, Lot.of("b"), table)
        is_closed(HAS_A, Lot.of("b"), table)
        gap_table(moves, groups, "ab")
        self.assertEqual((table, moves, groups), ([[1, 0, 1], []], [[(1,), (0,)], [(1,), (1,)]], ["b", "a"]))

    def test_the_greatest_sizes(self):
        rng = seeded(116)
        for saying in (permuting(rng, "abcd", 60), random_saying(rng, "abcd", 60)):
            lot = random_lot(rng, "abcd", 8, 6)
            found = closed_over(saying, lot, random_entries(rng, saying.size))
            self.assertIs(is_closed(saying, lot, found), True)


if __name__ == "__main__":
    unittest.main()
