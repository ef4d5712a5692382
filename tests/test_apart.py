import unittest

from helpers import GrowsCase, some_growths
from stillgrows.apart import exchanged, gap_growths, gap_words, in_order, woven
from stillgrows.errors import DoNotMeet, WrongCount
from stillgrows.growths import Growth


def made_joins(growth):
    """Each joined group with the ends of the row that its signs have in the end row."""
    spots = {}
    for at, (owner, _) in enumerate(growth.owners()):
        spots.setdefault(owner, []).append(at)
    return sorted(spots[k + 1] for k in range(len(growth)))


class TestGaps(GrowsCase):
    def test_the_example(self):
        growth = Growth.read("ab: 1 cd, 0 e, 3 f")
        self.assertEqual(gap_words(growth), ["e", "cfd", ""])
        self.assertEqual([part.text() for part in gap_growths(growth)], [": 0 e", ": 0 cd, 1 f", ": -"])

    def test_without_joins_and_from_the_empty_row(self):
        self.assertEqual(gap_words(Growth("ab")), ["", "", ""])
        self.assertEqual(gap_growths(Growth("ab")), [Growth("")] * 3)
        self.assertEqual((gap_words(Growth("")), gap_growths(Growth(""))), ([""], [Growth("")]))
        growth = Growth("", [(0, "ab"), (1, "c")])
        self.assertEqual((gap_words(growth), gap_growths(growth)), (["acb"], [growth]))

    def test_gaps_beside_signs_that_look_alike(self):
        self.assertEqual(gap_words(Growth("aa", [(1, "a")])), ["", "a", ""])
        self.assertEqual(gap_words(Growth("aa", [(0, "aa"), (4, "a")])), ["aa", "", "a"])

    def test_words_and_start_row_make_the_end_row(self):
        for growth in some_growths(12):
            words = gap_words(growth)
            self.assertEqual(len(words), len(growth.start) + 1)
            self.assertEqual(words[0] + "".join(s + w for s, w in zip(growth.start, words[1:])), growth.row)

    def test_each_growth_of_a_gap_makes_its_word(self):
        for growth in some_growths(12):
            parts = gap_growths(growth)
            self.assertEqual([part.start for part in parts], [""] * (len(growth.start) + 1))
            self.assertEqual([part.row for part in parts], gap_words(growth))
            self.assertEqual(sorted(g for part in parts for _, g in part), sorted(g for _, g in growth))


class TestWoven(GrowsCase):
    def test_ordinary(self):
        parts = [Growth.read(": 0 e"), Growth.read(": 0 cd, 1 f"), Growth("")]
        self.assertEqual(woven("ab", parts).text(), "ab: 0 e, 2 cd, 3 f")
        self.assertEqual(woven("ab", tuple(parts)), woven("ab", parts))
        self.assertEqual(woven("", [Growth("")]), Growth(""))

    def test_its_growths_of_the_gaps_are_the_given_ones(self):
        for growth in some_growths(12):
            parts = gap_growths(growth)
            whole = woven(growth.start, parts)
            self.assertEqual((whole.start, whole.row), (growth.start, growth.row))
            self.assertEqual(gap_growths(whole), parts)
            self.assertEqual(list(whole), list(woven(growth.start, gap_growths(whole))))

    def test_the_joins_of_the_first_gap_come_first(self):
        parts = [Growth("", [(0, "x"), (0, "y")]), Growth("", [(0, "z"), (1, "w")])]
        self.assertEqual(woven("a", parts).text(), "a: 0 x, 0 y, 3 z, 4 w")

    def test_wrong_counts(self):
        for many in (0, 1, 2, 4):
            self.refuses(WrongCount, many, woven, "ab", [Growth("a")] * many)

    def test_growths_that_do_not_start_at_the_empty_row(self):
        parts = [Growth(""), Growth("xy", [(0, "a")]), Growth("z")]
        self.refuses(DoNotMeet, ("", "xy"), woven, "ab", parts)
        self.assertEqual(len(parts), 3)


class TestExchanged(GrowsCase):
    def test_ordinary(self):
        self.same(exchanged((1, "cd"), (0, "e")), ((0, "e"), (2, "cd")))
        self.assertEqual(exchanged((1, "cd"), (1, "ef")), ((1, "ef"), (3, "cd")))
        self.assertEqual(exchanged((1, "cd"), (3, "e")), ((1, "e"), (1, "cd")))
        self.assertEqual(exchanged((1, "cd"), (5, "e")), ((3, "e"), (1, "cd")))

    def test_one_inside_the_other(self):
        self.assertIsNone(exchanged((1, "cd"), (2, "e")))
        self.assertIsNone(exchanged((0, "abc"), (1, "e")))
        self.assertIsNone(exchanged((0, "abc"), (2, "e")))

    def test_the_signs_come_to_stand_in_the_same_order(self):
        for first in ((0, "x"), (1, "xy"), (2, "xyz")):
            for gap in range(3 + len(first[1])):
                second = (gap, "uv")
                found = exchanged(first, second)
                inside = first[0] < gap < first[0] + len(first[1])
                self.assertEqual(found is None, inside)
                if found is not None:
                    one = Growth("ab", [first, second])
                    two = Growth("ab", found)
                    self.assertEqual(two.row, one.row)
                    self.assertEqual([group for _, group in two], ["uv", first[1]])


class TestInOrder(GrowsCase):
    def test_ordinary(self):
        self.assertEqual(in_order(Growth.read("ab: 1 cd, 0 e, 3 f")).text(), "ab: 0 e, 2 cd, 3 f")
        self.assertEqual(in_order(Growth.read(": 0 a, 0 b")).text(), ": 0 b, 1 a")
        self.assertEqual(in_order(Growth("ab")), Growth("ab"))
        self.assertEqual(in_order(Growth("")), Growth(""))

    def test_the_same_joins_with_ascending_gaps(self):
        for growth in some_growths(12):
            found = in_order(growth)
            gaps = [gap for gap, _ in found]
            self.assertEqual((found.start, found.row), (growth.start, growth.row))
            self.assertEqual(gaps, sorted(set(gaps)))
            self.assertEqual(made_joins(found), made_joins(growth))
            self.assertEqual(in_order(found), found)

    def test_nothing_is_changed(self):
        growth = Growth.read("ab: 1 cd, 0 e, 3 f")
        words = gap_words(growth)
        words.append("x")
        parts = gap_growths(growth)
        parts.append(Growth(""))
        in_order(growth)
        self.assertEqual(growth.text(), "ab: 1 cd, 0 e, 3 f")
        self.assertEqual((len(gap_words(growth)), len(gap_growths(growth))), (3, 3))


if __name__ == "__main__":
    unittest.main()
