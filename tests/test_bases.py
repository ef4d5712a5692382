import itertools
import unittest

from helpers import GrowsCase, grown, random_joins, random_lot, seeded
from stillgrows.bases import alike, base, covers, parting_group, retold
from stillgrows.growths import Growth
from stillgrows.lots import Lot

EMPTY = Lot([])


def plainly_comes(group, lot):
    return group in grown("", lot.groups, len(group))


def some_lots(seed, many, longest=4):
    rng = seeded(seed)
    yield EMPTY
    yield Lot.of("b", "ab", "aabb")
    yield Lot.of("a", "aa", "aaa")
    yield Lot.of("ab", "aabb", "abab", "ba")
    yield Lot.of("aab", "b", "aabaab", "aaabb")
    for _ in range(many):
        yield random_lot(rng, "ab", rng.randint(0, 5), longest)


class TestBase(GrowsCase):
    def test_the_example(self):
        self.same(base(Lot.of("b", "ab", "aabb")), Lot.of("b", "ab"))

    def test_base(self):
        for lot in some_lots(400, 60):
            wanted = [group for group in lot
                      if not plainly_comes(group, Lot([other for other in lot if other != group]))]
            found = base(lot)
            self.same(found, Lot(wanted))
            self.assertEqual(grown("", found.groups, 6), grown("", lot.groups, 6))
            self.assertEqual(base(found), found)
        self.same(base(EMPTY), EMPTY)
        self.same(base(Lot.of("a", "aa", "aaa", "aba", "b")), Lot.of("a", "b"))

    def test_groups_that_come_by_joins_one_inside_another(self):
        self.same(base(Lot.of("ab", "aaabbb", "aabbab")), Lot.of("ab"))
        self.same(base(Lot.of("abc", "aabcbc", "aabbcc")), Lot.of("abc", "aabbcc"))
        self.same(base(Lot.of("ab", "cd", "acdb", "cabd", "cadb")), Lot.of("ab", "cd", "cadb"))


class TestCovers(GrowsCase):
    def test_covers_and_alike(self):
        answers = set()
        for lot, other in itertools.product(list(some_lots(401, 12, 3)), repeat=2):
            covered = all(plainly_comes(group, lot) for group in other)
            self.same(covers(lot, other), covered)
            same = set(grown("", lot.groups, 6)) == set(grown("", other.groups, 6))
            self.same(alike(lot, other), same)
            self.same(base(lot) == base(other), same)
            answers.add((covered, same))
        self.assertEqual(answers, {(True, True), (True, False), (False, False)})

    def test_the_empty_lot(self):
        self.same(covers(Lot.of("a"), EMPTY), True)
        self.same(covers(EMPTY, EMPTY), True)
        self.same(covers(EMPTY, Lot.of("a")), False)
        self.same(alike(EMPTY, EMPTY), True)
        self.same(alike(EMPTY, Lot.of("a")), False)
        self.same(alike(Lot.of("a"), EMPTY), False)

    def test_parting_group(self):
        for lot, other in itertools.product(list(some_lots(402, 14, 3)), repeat=2):
            groups = sorted({group for one in (lot, other) for group in one}, key=lambda group: (len(group), group))
            wanted = [group for group in groups if plainly_comes(group, lot) != plainly_comes(group, other)]
            self.same(parting_group(lot, other), wanted[0] if wanted else None)
            self.assertEqual(parting_group(lot, other) is None, alike(lot, other))
        self.same(parting_group(Lot.of("a", "bb"), Lot.of("aa", "b")), "a")
        self.same(parting_group(Lot.of("a", "b"), Lot.of("ab", "a", "b", "aab")), None)
        self.same(parting_group(Lot.of("b"), Lot.of("b", "abb", "ab")), "ab")


class TestRetold(GrowsCase):
    def check(self, growth, lot):
        found = retold(growth, lot)
        if not all(plainly_comes(group, lot) for _, group in growth.joins):
            self.same(found, None)
            return None
        self.assertIs(type(found), Growth)
        self.assertEqual((found.start, found.row), (growth.start, growth.row))
        self.assertTrue(all(group in lot for _, group in found.joins))
        # The joins of a replaced join follow one another, and are as few as possible.
        rows = list(found.stages())
        at = 0
        for row in growth.stages():
            self.assertIn(row, rows[at:])
            at = rows.index(row, at)
        self.assertEqual(len(found), sum(self.fewest(group, lot) for _, group in growth.joins))
        return found

    def fewest(self, group, lot):
        level, many = {""}, 0
        while group not in level:
            level = {row[:gap] + one + row[gap:] for row in level for gap in range(len(row) + 1) for one in lot
                     if len(row) + len(one) <= len(group)}
            many += 1
        return many

    def test_retold(self):
        rng = seeded(403)
        answers = set()
        for _ in range(150):
            growth = Growth("ab", random_joins(rng, "ab", rng.randint(0, 4), "ab", 5))
            answers.add(self.check(growth, random_lot(rng, "ab", rng.randint(1, 3), 2)) is None)
        self.assertEqual(answers, {True, False})

    def test_some(self):
        self.same(retold(Growth("x", [(1, "aabb")]), Lot.of("ab")) == Growth("x", [(1, "ab"), (2, "ab")]), True)
        self.same(retold(Growth("x", [(1, "ab"), (2, "aabb")]), Lot.of("ab")).row, "xaaabbb")
        self.same(retold(Growth("x", [(1, "ab"), (0, "ba")]), Lot.of("ab")), None)
        self.same(retold(Growth("x", [(0, "a")]), EMPTY), None)

    def test_no_join_and_groups_of_the_lot(self):
        for lot in (EMPTY, Lot.of("a")):
            self.same(retold(Growth("xyz"), lot) == Growth("xyz"), True)
        growth = Growth("x", [(1, "aa"), (2, "ab"), (0, "aa")])
        self.same(retold(growth, Lot.of("a", "aa", "ab")) == growth, True)

    def test_the_greatest_sizes(self):
        lot = Lot.of("a", "b", "ab", "ba", "aab", "abb", "bab", "aabbab")
        growth = Growth("a" * 100, [(50, "aabbab")] * 16)
        self.assertEqual(retold(growth, lot), growth)
        self.assertEqual(len(retold(growth, Lot.of("a", "b"))), 96)
        long = Lot.of("ababab", "bababa", "aabbab", "abbbab", "aaabbb", "ab", "ba", "aaab")
        self.assertTrue(covers(long, base(long)))
        self.same(alike(long, base(long)), True)


if __name__ == "__main__":
    unittest.main()
