import functools
import unittest

from helpers import GrowsCase, all_rows, random_saying, rows_in, seeded
from stillgrows.errors import DifferentSigns, InvalidSigns, UnknownSign
from stillgrows.making import followed, holding, repeated, scattering, shuffled, turned_saying, unshuffled
from stillgrows.sayings import Saying

LONGEST = 6


def some_sayings(rng, many, sizes, signs="ab"):
    """Random sayings, and among them those of all rows, of no row and of the empty row alone."""
    found = [Saying.full(signs), Saying.void(signs), Saying.single(signs, "")]
    return found + [random_saying(rng, signs, rng.choice(sizes)) for _ in range(many)]


def cuts(row):
    return [(row[:at], row[at:]) for at in range(len(row) + 1)]


@functools.lru_cache(None)
def shuffles(first, second):
    """All shuffles of two rows."""
    if first == "" or second == "":
        return {first + second}
    return ({first[0] + row for row in shuffles(first[1:], second)}
            | {second[0] + row for row in shuffles(first, second[1:])})


def is_repeated(saying, row):
    """Whether the row is made of rows of the saying, one behind the other."""
    return row == "" or any(row[:at] in saying and is_repeated(saying, row[at:]) for at in range(1, len(row) + 1))


def ring(signs, size, marked):
    """A saying of so many states: the first sign goes round, the others stand or exchange two states."""
    table = []
    for state in range(size):
        stays = [1 - state if state < 2 <= size else state] + [state] * len(signs)
        table.append(([(state + 1) % size] + stays)[:len(signs)])
    return Saying(signs, table, [state in marked for state in range(size)])


class TestFollowed(GrowsCase):
    def test_two_and_three_sayings_against_a_plain_search(self):
        rng = seeded(40)
        for first in some_sayings(rng, 5, (2, 3, 4)):
            for second in some_sayings(rng, 4, (2, 3, 4)):
                wanted = [row for row in all_rows("ab", LONGEST)
                          if any(x in first and y in second for x, y in cuts(row))]
                both = followed(first, second)
                self.assertEqual(rows_in(both, LONGEST), wanted)
                third = random_saying(rng, "ab", 3)
                wanted = [row for row in all_rows("ab", LONGEST)
                          if any(x in both and y in third for x, y in cuts(row))]
                self.assertEqual(rows_in(followed(first, second, third), LONGEST), wanted)

    def test_empty_rows_between(self):
        empty = Saying.single("ab", "")
        a, b = Saying.single("ab", "a"), Saying.single("ab", "b")
        self.assertEqual(followed(a, empty, b), Saying.single("ab", "ab"))
        self.assertEqual(followed(empty, empty, empty), empty)
        self.assertEqual(followed(a, b, empty), Saying.single("ab", "ab"))
        self.assertEqual(followed(a | empty, b | empty, a | empty).text(),
                         Saying.text(empty | a | b | followed(a, b) | followed(a, a) | followed(b, a)
                                     | followed(a, b, a)))

    def test_one_saying(self):
        rng = seeded(41)
        for saying in some_sayings(rng, 5, (3, 5)):
            self.assertEqual(followed(saying), saying)

    def test_one_sign(self):
        even = Saying.read("a: 1 +, 0 -")
        three = Saying.single("a", "aaa")
        self.assertEqual(rows_in(followed(three, even), 9), ["a" * k for k in (3, 5, 7, 9)])

    def test_the_first_other_alphabet(self):
        ab, abc, b = Saying.full("ab"), Saying.full("abc"), Saying.full("b")
        self.refuses(DifferentSigns, ("ab", "abc"), followed, ab, abc)
        self.refuses(DifferentSigns, ("ab", "b"), followed, ab, ab, b)
        self.refuses(DifferentSigns, ("ab", "abc"), followed, ab, abc, b)
        self.refuses(DifferentSigns, ("b", "ab"), followed, b, ab, abc)

    def test_the_greatest_sizes(self):
        rng = seeded(48)
        first = ring("abcd", 60, [59])
        second = ring("abcd", 8, [7])
        third = random_saying(rng, "abcd", 8)
        fourth = random_saying(rng, "abcd", 8)
        self.assertEqual([saying.size for saying in (first, second, third, fourth)], [60, 8, 8, 8])
        both = followed(first, second)
        for row in ("a" * 66, "a" * 59 + "b" + "a" * 7, "a" * 65, "a" * 70, "b" * 70, "ba" * 60):
            self.assertEqual(row in both, any(x in first and y in second for x, y in cuts(row)))
        two = followed(first, third)
        three = followed(first, third, fourth)
        for row in ("a" * 66, "a" * 67, "a" * 59 + "b" + "a" * 7 + "cd", "a" * 65, "a" * 59, "abcd" * 30):
            self.assertEqual(row in three, any(x in two and y in fourth for x, y in cuts(row)))


class TestRepeated(GrowsCase):
    def test_against_a_plain_search(self):
        rng = seeded(42)
        for saying in some_sayings(rng, 25, (2, 3, 4, 6)):
            wanted = [row for row in all_rows("ab", LONGEST) if is_repeated(saying, row)]
            self.assertEqual(rows_in(repeated(saying), LONGEST), wanted)

    def test_edges(self):
        self.assertEqual(repeated(Saying.void("ab")), Saying.single("ab", ""))
        self.assertEqual(repeated(Saying.single("ab", "")), Saying.single("ab", ""))
        self.assertEqual(repeated(Saying.full("ab")), Saying.full("ab"))
        self.assertEqual(repeated(Saying.single("ab", "ab")).text(), "ab: 1 2 +, 2 0 -, 2 2 -")
        # The empty row is in, but the state in which a saying starts may be reached again.
        ends_b = Saying.read("ab: 0 1 -, 0 1 +")
        self.assertEqual(rows_in(repeated(ends_b), 2), ["", "b", "ab", "bb"])

    def test_the_greatest_size(self):
        saying = ring("abcd", 12, [3, 11])
        self.assertEqual(saying.size, 12)
        found = repeated(saying)
        for row in ("", "aaa", "a" * 6, "a" * 11, "a" * 13, "ab" * 5, "aaab" * 3, "ba" * 8):
            self.assertEqual(row in found, is_repeated(saying, row))


class TestShuffles(GrowsCase):
    def test_shuffled_against_a_plain_search(self):
        rng = seeded(43)
        for first in some_sayings(rng, 3, (2, 3, 4)):
            for second in some_sayings(rng, 3, (2, 3, 4)):
                wanted = {row for x in rows_in(first, 5) for y in rows_in(second, 5 - len(x)) for row in shuffles(x, y)}
                self.assertEqual(set(rows_in(shuffled(first, second), 5)), wanted)
                self.assertEqual(shuffled(first, second), shuffled(second, first))

    def test_unshuffled_against_a_plain_search(self):
        rng = seeded(44)
        # All rows over one sign: with rows this long, each pair of states that can be reached is.
        for _ in range(40):
            saying, other = random_saying(rng, "a", rng.randint(1, 4)), random_saying(rng, "a", rng.randint(1, 4))
            wanted = ["a" * k for k in range(9) if any("a" * many in other and "a" * (k + many) in saying
                                                       for many in range(20))]
            self.assertEqual(rows_in(unshuffled(saying, other), 8), wanted)
        for first in some_sayings(rng, 4, (2, 3)):
            for row in ("", "a", "ba", "bab"):
                other = Saying.single("ab", row)
                found = unshuffled(first, other)
                for x in all_rows("ab", 4):
                    self.assertEqual(x in found, any(y in first for y in shuffles(x, row)))

    def test_unshuffled_random_pairs(self):
        rng = seeded(45)
        for _ in range(20):
            saying, other = random_saying(rng, "ab", 4), random_saying(rng, "ab", 4)
            found = unshuffled(saying, other)
            for row in all_rows("ab", 5):
                self.assertEqual(row in found, self.can_be_unshuffled(saying, other, row))

    def test_edges(self):
        empty, void, full = Saying.single("ab", ""), Saying.void("ab"), Saying.full("ab")
        has_a = Saying.read("ab: 1 0 -, 1 1 +")
        self.assertEqual(shuffled(has_a, empty), has_a)
        self.assertEqual(shuffled(has_a, void), void)
        self.assertEqual(shuffled(has_a, full), has_a)
        self.assertEqual(unshuffled(has_a, empty), has_a)
        self.assertEqual(unshuffled(has_a, void), void)
        self.assertEqual(unshuffled(has_a, full), full)
        self.assertEqual(unshuffled(empty, full), empty)
        self.assertEqual(unshuffled(void, full), void)

    def test_other_alphabets(self):
        ab, ac = Saying.full("ab"), Saying.full("ac")
        for make in (shuffled, unshuffled):
            self.refuses(DifferentSigns, ("ab", "ac"), make, ab, ac)
            self.refuses(DifferentSigns, ("ac", "ab"), make, ac, ab)

    def test_the_greatest_sizes(self):
        for one, two in ((4, 4), (2, 8), (8, 2), (1, 16), (16, 1)):
            first, second = ring("abcd", one, [one - 1]), ring("abcd", two, [0])
            self.assertEqual(first.size * second.size, 16)
            whole, rest = shuffled(first, second), unshuffled(first, second)
            for row in all_rows("abcd", 3) + ["aabbaab", "abcdabc"]:
                pairs = {(0, 0)}
                for sign in row:
                    pairs = ({(first.step(p, sign), q) for p, q in pairs}
                             | {(p, second.step(q, sign)) for p, q in pairs})
                self.assertEqual(row in whole, any(first.marks[p] and second.marks[q] for p, q in pairs))
                self.assertEqual(row in rest, self.can_be_unshuffled(first, second, row))

    def can_be_unshuffled(self, saying, other, row):
        """Whether other signs, in front of and behind each sign, lead both sayings to marks."""
        pairs = [(0, 0)]
        for at in range(len(row) + 1):
            if at > 0:
                pairs = list({(saying.step(p, row[at - 1]), q) for p, q in pairs})
            for p, q in pairs:
                for sign in saying.signs:
                    pair = saying.step(p, sign), other.step(q, sign)
                    if pair not in pairs:
                        pairs.append(pair)
        return any(saying.marks[p] and other.marks[q] for p, q in pairs)


class TestTurned(GrowsCase):
    def test_against_the_rows(self):
        rng = seeded(46)
        for saying in some_sayings(rng, 25, (2, 3, 5, 8)):
            found = turned_saying(saying)
            self.assertEqual(rows_in(found, LONGEST),
                             [row for row in all_rows("ab", LONGEST) if row[::-1] in saying])
            self.assertEqual(turned_saying(found), saying)

    def test_the_greatest_size(self):
        # The last but seven sign is an `a`: eight states read it from the end.
        table = [[1, 0]] + [[2, 2], [3, 3], [4, 4], [5, 5], [6, 6], [7, 7], [7, 7]]
        saying = Saying("ab", table, [False] * 7 + [True])
        self.assertEqual(saying.size, 8)
        great = ring("abcd", 8, [0, 3, 4])
        for one in (saying, great):
            found = turned_saying(one)
            self.assertEqual(turned_saying(found), one)
            for row in ("", "a", "abbbbbbb", "aaaaaaab", "bbbabbbaa"):
                self.assertEqual(row in found, row[::-1] in one)


class TestPieces(GrowsCase):
    def test_holding(self):
        for row in ("", "a", "ab", "aab", "abab"):
            self.assertEqual(rows_in(holding("ab", row), 7), [found for found in all_rows("ab", 7) if row in found])
        self.assertEqual(holding("ab", "a").text(), "ab: 1 0 -, 1 1 +")
        self.assertEqual(holding("abcd", ""), Saying.full("abcd"))

    def test_scattering(self):
        for row in ("", "a", "ab", "aab", "abab"):
            wanted = {found for rest in all_rows("ab", 7 - len(row)) for found in shuffles(row, rest)}
            self.assertEqual(set(rows_in(scattering("ab", row), 7)), wanted)
        self.assertEqual(scattering("ab", "a").text(), "ab: 1 0 -, 1 1 +")
        self.assertEqual(scattering("abcd", ""), Saying.full("abcd"))

    def test_rows_of_12_signs(self):
        for row in ("a" * 12, "abcd" * 3, "abaabaaabaab"):
            self.assertEqual((holding("abcd", row).size, scattering("abcd", row).size), (13, 13))
            self.assertIn("ba" + row + "c", holding("abcd", row))
            self.assertNotIn(row[:6] + "d" + row[6:], holding("abcd", row))
            self.assertIn(row[:6] + "d" + row[6:], scattering("abcd", row))
            self.assertNotIn(row[1:], scattering("abcd", row))

    def test_refusals(self):
        for make in (holding, scattering):
            self.refuses(InvalidSigns, "ba", make, "ba", "xyz")
            self.refuses(InvalidSigns, "", make, "", "")
            self.refuses(UnknownSign, "d", make, "abc", "adbe")

    def test_nothing_is_changed(self):
        saying, other = Saying.read("ab: 1 0 -, 1 1 +"), Saying.single("ab", "ba")
        texts = saying.text(), other.text()
        for make in (followed, shuffled, unshuffled):
            self.assertEqual(make(saying, other), make(saying, other))
        self.assertEqual((repeated(saying), turned_saying(other)), (repeated(saying), turned_saying(other)))
        self.assertEqual((saying.text(), other.text()), texts)


if __name__ == "__main__":
    unittest.main()
