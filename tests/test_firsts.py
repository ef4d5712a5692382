import unittest

from helpers import GrowsCase, all_rows, permuting, random_saying, rows_in, seeded
from stillgrows.errors import DifferentSigns, UnknownSign
from stillgrows.firsts import count_all, count_rows, first_row, first_rows, longest_length, parting_row
from stillgrows.meanings import saying_of_text
from stillgrows.sayings import Saying

LONGEST = 7
VOID, FULL, EMPTY = Saying.void("ab"), Saying.full("ab"), Saying.single("ab", "")
HAS_A = Saying.read("ab: 1 0 -, 1 1 +")


def order(row):
    return len(row), row


def some_sayings(seed, signs="ab"):
    rng = seeded(seed)
    found = [VOID, FULL, EMPTY, HAS_A, saying_of_text("a|ab|bb(a|1)", "ab"), saying_of_text("(aaa)*b", "ab")]
    return found + [random_saying(rng, signs, rng.randint(2, 6)) for _ in range(40)]


class TestFirst(GrowsCase):
    def test_first_row(self):
        for saying in some_sayings(60):
            rows = rows_in(saying, LONGEST)
            self.same(first_row(saying), rows[0] if rows else None)
        self.assertEqual(first_row(Saying.single("abcd", "dcb")), "dcb")
        self.same(first_row(EMPTY), "")
        self.same(first_row(VOID), None)

    def test_a_first_row_as_long_as_there_are_states(self):
        self.assertEqual(first_row(permuting(seeded(61), "a", 60)), "a" * 59)

    def test_parting_row(self):
        rng = seeded(62)
        sayings = some_sayings(63)
        for first in sayings:
            second = rng.choice(sayings)
            rows = [row for row in all_rows("ab", LONGEST) if (row in first) != (row in second)]
            self.same(parting_row(first, second), rows[0] if rows else None)
            self.same(parting_row(first, first), None)
            self.same(parting_row(first, Saying("ab", first.table, first.marks)), None)
        self.same(parting_row(FULL, HAS_A), "")
        self.assertEqual(parting_row(HAS_A, VOID), "a")

    def test_parting_row_of_two_great_rings(self):
        first = Saying("a", [[(state + 1) % 60] for state in range(60)], [state == 59 for state in range(60)])
        second = Saying("a", [[(state + 1) % 59] for state in range(59)], [state == 0 for state in range(59)])
        self.assertEqual(parting_row(first, second), "")
        third = Saying("a", [[(state + 1) % 59] for state in range(59)], [state == 58 for state in range(59)])
        self.assertEqual(parting_row(first, third), "a" * 58)
        self.refuses(DifferentSigns, ("a", "ab"), parting_row, first, FULL)
        self.refuses(DifferentSigns, ("ab", "a"), parting_row, FULL, first)


class TestFirstRows(GrowsCase):
    def test_from_the_beginning(self):
        for saying in some_sayings(64):
            rows = rows_in(saying, LONGEST)
            for many in (0, 1, 2, 5, 60):
                found = first_rows(saying, many)
                self.assertEqual(found[:len(rows)], rows[:many])
                self.assertEqual(found, sorted(set(found), key=order))
                self.assertTrue(all(row in saying for row in found))
                count = count_all(saying)
                self.assertEqual(len(found), many if count is None else min(many, count))

    def test_behind_a_row_that_is_in_the_saying_or_not(self):
        for saying in some_sayings(65):
            rows = first_rows(saying, 60)
            for after in all_rows("ab", 4):
                behind = [row for row in rows if order(row) > order(after)]
                if len(rows) < 60:
                    self.assertEqual(first_rows(saying, 60, after=after), behind)
                many = min(len(behind), 7)
                self.assertEqual(first_rows(saying, many, after=after), behind[:many])

    def test_pages_continue_one_another(self):
        for saying in some_sayings(66):
            rows = first_rows(saying, 60)
            pages, after = [], None
            for many in (1, 7, 0, 20, 32):
                page = first_rows(saying, many, after=after)
                pages += page
                after = page[-1] if page else after
            self.assertEqual(pages, rows)

    def test_no_rows(self):
        self.same(first_rows(VOID, 60), [])
        self.same(first_rows(VOID, 60, after="ab"), [])
        self.same(first_rows(FULL, 0), [])
        self.same(first_rows(FULL, 0, after=""), [])
        self.assertEqual(first_rows(EMPTY, 5), [""])
        self.assertEqual(first_rows(EMPTY, 5, after=""), [])
        self.assertEqual(first_rows(Saying.single("ab", "ba"), 5, after="b"), ["ba"])
        self.assertEqual(first_rows(Saying.single("ab", "ba"), 5, after="aab"), [])

    def test_unknown_signs(self):
        self.refuses(UnknownSign, "d", first_rows, FULL, 3, after="adc")
        self.refuses(UnknownSign, "c", first_rows, FULL, 0, after="c")
        self.refuses(UnknownSign, "c", first_rows, VOID, 2, after="bc")

    def test_the_greatest_sizes(self):
        ring = Saying("a", [[(state + 1) % 60] for state in range(60)], [state == 7 for state in range(60)])
        self.assertEqual(first_rows(ring, 60), ["a" * (7 + 60 * k) for k in range(60)])
        self.assertEqual(first_rows(ring, 60, after="a" * 187), ["a" * (7 + 60 * k) for k in range(4, 64)])
        great = permuting(seeded(67), "abcd", 60)
        self.assertEqual(great.size, 60)
        found = first_rows(great, 60, after="d" * 200)
        self.assertTrue(all(len(row) == 201 and row in great for row in found))
        self.assertEqual(found, sorted(set(found)))
        self.assertEqual(len(found), 60)
        again = first_rows(great, 60, after="abcd" * 50)
        self.assertTrue(all(len(row) == 200 and row > "abcd" * 50 for row in again))


class TestCounts(GrowsCase):
    def test_count_rows(self):
        for saying in some_sayings(68):
            rows = rows_in(saying, LONGEST)
            for length in range(LONGEST + 1):
                self.same(count_rows(saying, length), len([row for row in rows if len(row) == length]))

    def test_count_rows_at_length_200(self):
        self.assertEqual(count_rows(FULL, 200), 2 ** 200)
        self.assertEqual(count_rows(Saying.full("abcd"), 200), 4 ** 200)
        self.assertEqual(count_rows(HAS_A, 200), 2 ** 200 - 1)
        self.assertEqual(count_rows(VOID, 200), 0)
        even = Saying.read("ab: 1 0 +, 0 1 -")
        self.assertEqual(count_rows(even, 200), 2 ** 199)
        great = permuting(seeded(69), "abcd", 60)
        marks = [Saying("abcd", great.table, [state == mark for state in range(60)]) for mark in range(60)]
        self.assertEqual(sum(count_rows(saying, 200) for saying in marks), 4 ** 200)

    def test_count_all_and_longest(self):
        finite = saying_of_text("1|a|bb|aab", "ab")
        self.assertEqual((count_all(finite), longest_length(finite)), (4, 3))
        self.assertEqual((count_all(EMPTY), longest_length(EMPTY)), (1, 0))
        self.assertEqual((count_all(VOID), longest_length(VOID)), (0, -1))
        self.assertEqual((count_all(FULL), longest_length(FULL)), (None, None))
        self.assertEqual((count_all(HAS_A), longest_length(HAS_A)), (None, None))
        for length in (1, 2, 57):
            up_to = Saying("abc", [[min(state + 1, length + 1)] * 3 for state in range(length + 2)],
                           [state <= length for state in range(length + 2)])
            self.same(count_all(up_to), sum(3 ** k for k in range(length + 1)))
            self.same(longest_length(up_to), length)

    def test_random_sayings(self):
        for saying in some_sayings(70):
            # A saying with a row as long as it has states is endless.
            rows = rows_in(saying, 2 * saying.size - 1) if saying.size <= 5 else None
            if rows is None:
                continue
            if rows and len(rows[-1]) >= saying.size:
                self.same((count_all(saying), longest_length(saying)), (None, None))
            else:
                self.same((count_all(saying), longest_length(saying)), (len(rows), len(rows[-1]) if rows else -1))

    def test_long_circles_are_endless(self):
        for size in (2, 3, 30, 60):
            ring = Saying("ab", [[(state + 1) % size, state] for state in range(size)],
                          [state == size - 1 for state in range(size)])
            self.assertEqual((count_all(ring), longest_length(ring)), (None, None))


if __name__ == "__main__":
    unittest.main()
