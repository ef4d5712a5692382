import unittest

from helpers import GrowsCase, all_rows, grown, moves_of, permuting, random_lot, random_saying, seeded
from stillgrows.closures import gap_table
from stillgrows.errors import UnknownSign
from stillgrows.lots import Lot
from stillgrows.sayings import Saying
from stillgrows.spreads import Spread, plain_spread

HAS_A = Saying.read("ab: 1 0 -, 1 1 +")
# From 0 the sign `a` leads to 1 and 2 and `b` nowhere; a gap leads 2 to 3.
SPLIT = Spread("ab", (0,), [[(1, 2), ()], [(1,), (0, 3)], [(0,), (2,)], [(), (3,)]],
               [True, False, True, False], [(0,), (1,), (2, 3), (3,)])


class TestSpread(GrowsCase):
    def test_lists_become_tuples(self):
        moves = [[[1], [0]], [[1], [1]]]
        starts, marks, gap = [0], [False, True], [[0, 1], [1]]
        spread = Spread("ab", starts, moves, marks, gap)
        starts.append(1)
        marks[0] = True
        gap[1].append(0)
        moves[0][0].append(0)
        moves[1].pop()
        self.same(spread.signs, "ab")
        self.same(spread.starts, (0,))
        self.same(spread.marks, (False, True))
        self.same(spread.gap, ((0, 1), (1,)))
        self.same(spread.moves, (((1,), (0,)), ((1,), (1,))))
        for worth in (spread.gap[0], spread.moves[0], spread.moves[0][0], spread.moves[1][1]):
            self.assertIs(type(worth), tuple)
        self.assertEqual(spread.ends("b"), (0, 1))

    def test_equal(self):
        parts = ["ab", (0,), (((1,), (0,)), ((1,), (1,))), (False, True), ((0, 1), (1,))]
        others = ["ac", (1,), (((1,), (1,)), ((1,), (1,))), (True, True), ((0,), (1,))]
        spread = Spread(*parts)
        self.same(spread == Spread("ab", [0], [[[1], [0]], [[1], [1]]], [False, True], [[0, 1], [1]]), True)
        for at, other in enumerate(others):
            self.same(spread == Spread(*parts[:at], other, *parts[at + 1:]), False)
        for other in (None, 1, tuple(parts), HAS_A):
            self.same(spread == other, False)

    def test_ends_where_signs_lead_to_several_states_or_to_none(self):
        self.same(SPLIT.first(), (0,))
        self.same(SPLIT.ends("a"), (1, 2, 3))
        self.same(SPLIT.ends("ab"), (0, 2, 3))
        self.same(SPLIT.ends("b"), ())
        self.same(SPLIT.ends("bab"), ())
        self.same(Spread("ab", (), SPLIT.moves, SPLIT.marks, SPLIT.gap).first(), ())
        self.same(Spread("ab", (1, 2), SPLIT.moves, SPLIT.marks, SPLIT.gap).first(), (1, 2, 3))

    def test_after(self):
        self.same(SPLIT.after([0], "a"), (1, 2, 3))
        self.same(SPLIT.after((3, 1, 3, 1), "b"), (0, 3))
        self.same(SPLIT.after([1, 2, 0, 2], "a"), (0, 1, 2, 3))
        self.same(SPLIT.after([], "a"), ())
        self.refuses(UnknownSign, "c", SPLIT.after, [0], "c")
        self.refuses(UnknownSign, "c", SPLIT.after, [], "c")

    def test_ends_along(self):
        self.assertEqual(list(SPLIT.ends_along("ab")), [(0,), (1, 2, 3), (0, 2, 3)])
        self.assertEqual(list(SPLIT.ends_along("")), [(0,)])
        along = SPLIT.ends_along("acd")
        self.assertIs(iter(along), along)
        self.assertEqual([next(along), next(along)], [(0,), (1, 2, 3)])
        self.refuses(UnknownSign, "c", next, along)

    def test_unknown_signs(self):
        self.refuses(UnknownSign, "d", SPLIT.ends, "badc")
        self.refuses(UnknownSign, "c", SPLIT.ends, "c")


class TestPlainSpread(GrowsCase):
    def test_the_examples(self):
        spread = plain_spread(HAS_A, Lot.of("b"))
        self.assertEqual((spread.gap, spread.ends("ab")), (((0,), (1,)), (1,)))
        spread = plain_spread(HAS_A, Lot.of("a"))
        self.assertEqual((spread.gap, spread.first(), spread.ends("b")), (((0, 1), (1,)), (0, 1), (0, 1)))

    def test_fields(self):
        spread = plain_spread(HAS_A, Lot.of("a", "ba"))
        self.assertEqual(spread, Spread("ab", (0,), (((1,), (0,)), ((1,), (1,))), (False, True), ((0, 1), (1,))))
        for worth in (spread.starts, spread.moves, spread.moves[0], spread.moves[0][0], spread.marks, spread.gap):
            self.assertIs(type(worth), tuple)

    def test_ends_are_the_states_of_all_rows_to_which_a_row_grows(self):
        rng = seeded(120)
        for _ in range(25):
            saying, lot = random_saying(rng, "ab", rng.randint(2, 3)), random_lot(rng, "ab", rng.randint(0, 2), 2)
            spread = plain_spread(saying, lot)
            self.assertEqual(spread.gap, gap_table(moves_of(saying), lot.groups, "ab"))
            for row in all_rows("ab", 3):
                found = {saying.state_after(other) for other in grown(row, lot.groups, len(row) + 7)}
                self.same(spread.ends(row), tuple(sorted(found)))
                self.assertEqual(list(spread.ends_along(row)), [spread.ends(row[:k]) for k in range(len(row) + 1)])

    def test_the_first_sign_of_the_lot_that_is_unknown(self):
        self.refuses(UnknownSign, "d", plain_spread, HAS_A, Lot.of("aac", "bd"))
        self.refuses(UnknownSign, "z", plain_spread, HAS_A, Lot.of("zy"))

    def test_the_greatest_sizes(self):
        rng = seeded(121)
        for saying in (permuting(rng, "abcd", 40), random_saying(rng, "abcd", 40)):
            spread = plain_spread(saying, random_lot(rng, "abcd", 8, 6))
            row = "".join(rng.choice("abcd") for _ in range(200))
            self.assertIn(saying.state_after(row), spread.ends(row))
            self.assertEqual(len(list(spread.ends_along(row))), 201)


if __name__ == "__main__":
    unittest.main()
