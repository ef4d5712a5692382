import unittest

from helpers import GrowsCase, all_rows, random_saying, seeded
from stillgrows.classes import Classes
from stillgrows.counting import counting_row, never_counts, period
from stillgrows.errors import UnknownSign
from stillgrows.meanings import saying_of_text
from stillgrows.sayings import Saying

PRIMES = (2, 3, 5, 7, 11, 13, 17)


def leads_in_a_circle(saying, row):
    for state in range(saying.size):
        path = [state]
        while saying.state_after(row, path[-1]) not in path:
            path.append(saying.state_after(row, path[-1]))
        if saying.state_after(row, path[-1]) != path[-1]:
            return True
    return False


def plain_period(saying, row, most=60):
    """The least p and k for which k and k + p repetitions lead all states alike."""
    maps = [tuple(range(saying.size))]
    for _ in range(most):
        maps.append(tuple(saying.state_after(row, state) for state in maps[-1]))
    for p in range(1, most):
        if any(maps[k] == maps[k + p] for k in range(most - p + 1)):
            return p
    return None


def some_sayings(seed):
    rng = seeded(seed)
    found = [Saying.void("ab"), Saying.full("ab"), Saying.single("ab", "ba"), saying_of_text("(aa)*", "ab"),
             saying_of_text("(ab)*", "ab"), saying_of_text("<ab>", "ab"), saying_of_text("((a|b)(a|b))*", "ab")]
    return found + [random_saying(rng, "ab", rng.randint(2, 4)) for _ in range(60)]


class TestCounting(GrowsCase):
    def test_sayings_that_count_or_never_count(self):
        for text, row in (("(aa)*", "a"), ("(ab)*", None), ("<ab>", None), ("a*b*", None), ("((a|b)(a|b))*", "a"),
                          ("(b|ab*a)*", "a"), ("0", None), (".*", None), ("(bab|a)*", None), ("(aba)*", None),
                          ("(abab)*", "ab"), ("((ab|b)(ab|b))*", "b"), ("(abb|bab)*", None)):
            saying = saying_of_text(text, "ab")
            first = next((found for found in all_rows("ab", 6) if leads_in_a_circle(saying, found)), None)
            if row is not None or first is None:
                self.assertEqual(first, row, text)
            self.same(counting_row(saying), first)
            self.same(never_counts(saying), first is None)

    def test_against_a_plain_search(self):
        for saying in some_sayings(90):
            longest = max(len(word) for word in Classes(saying).words)
            rows = [row for row in all_rows("ab", min(longest, 9)) if leads_in_a_circle(saying, row)]
            if rows or longest <= 9:
                self.same(counting_row(saying), rows[0] if rows else None)
                self.same(never_counts(saying), not rows)

    def test_periods(self):
        for saying in some_sayings(91):
            for row in all_rows("ab", 4):
                found = period(saying, row)
                self.same(found, plain_period(saying, row))
                self.assertEqual(found > 1, leads_in_a_circle(saying, row))
            self.same(period(saying, ""), 1)

    def test_a_path_into_a_circle(self):
        saying = Saying("a", [[1], [2], [3], [4], [2]], [False, False, False, False, True])
        self.assertEqual([period(saying, "a" * k) for k in range(7)], [1, 3, 3, 1, 3, 3, 1])
        self.same(counting_row(saying), "a")

    def test_a_path_that_ends_in_an_older_one(self):
        # From 3 the row leads to 0, and from there in no circle: 0, 1, 2, 2, ..
        saying = Saying("ab", [[1, 3], [2, 1], [2, 2], [0, 3]], [False, True, False, False])
        self.assertEqual((saying.size, period(saying, "a"), period(saying, "b")), (4, 1, 1))

    def test_the_period_of_any_saying(self):
        # Circles of 2, 3, 5, 7, 11, 13 and 17 states, the first of which `b` leads from one to the next.
        table, begins = [], [sum(PRIMES[:k]) for k in range(len(PRIMES))]
        for begin, size in zip(begins, PRIMES):
            nextone = begin + size if begin + size < sum(PRIMES) else 0
            table += [[begin + (at + 1) % size, nextone if at == 0 else begin + at] for at in range(size)]
        saying = Saying("ab", table, [state in begins[1:] for state in range(len(table))])
        self.assertEqual((saying.size, period(saying, "a")), (58, 2 * 3 * 5 * 7 * 11 * 13 * 17))
        self.assertEqual(period(saying, "aa"), 3 * 5 * 7 * 11 * 13 * 17)
        self.assertEqual(period(saying, "b"), 7)
        self.assertEqual(period(saying, "a" * 30), 7 * 11 * 13 * 17)

    def test_unknown_signs(self):
        self.refuses(UnknownSign, "d", period, Saying.full("ab"), "adc")
        self.refuses(UnknownSign, "c", period, Saying.void("ab"), "c")

    def test_the_greatest_number_of_classes(self):
        table = [[1, 1, 0, 0], [2, 0, 0, 1], [3, 2, 2, 2], [0, 3, 3, 3]]
        self.assertEqual(counting_row(Saying("abcd", table, [False, False, False, True])), "a")
        # Sixteen states in a row: no row leads them in a circle.
        path = [[min(state + 1, 15), state] for state in range(16)]
        saying = Saying("ab", path, [state == 15 for state in range(16)])
        self.same(never_counts(saying), True)


if __name__ == "__main__":
    unittest.main()
