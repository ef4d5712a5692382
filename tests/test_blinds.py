import unittest

from helpers import GrowsCase, all_rows, doubled, permuting, random_saying, rows_in, seeded
from stillgrows.blinds import blind_signs, blurred, is_pace_blind, pace_example, sharpened
from stillgrows.errors import UnknownSign
from stillgrows.meanings import saying_of_text
from stillgrows.paces import squeezed
from stillgrows.sayings import Saying

HAS_A = Saying.read("ab: 1 0 -, 1 1 +")
NO_AA = Saying.read("ab: 1 0 +, 2 0 +, 2 2 -")
PACES = ("", "a", "b", "ab", "baa")


def some_sayings(seed, many, most=6):
    rng = seeded(seed)
    texts = ("aab", "a*b", "<ab>", "<aab>", "(aa)*", "(ab)*", "<bb>&~<aaa>", "b.*", "0", ".*", "aab|ab|b", "~a*", ".a")
    for text in texts:
        yield saying_of_text(text, "ab")
    for _ in range(many):
        yield random_saying(rng, "ab", rng.randint(1, most))


def changing(saying, row, paced):
    """The rows that arise by a doubling that changes whether the row is in the saying, in row order."""
    return sorted(other for other in doubled(row, paced) if (other in saying) != (row in saying))


class TestBlind(GrowsCase):
    def test_blind_signs(self):
        self.same(blind_signs(HAS_A), "ab")
        self.same(blind_signs(NO_AA), "b")
        self.same(blind_signs(saying_of_text("aab", "ab")), "")
        self.same(blind_signs(saying_of_text("<bb>", "abc")), "ac")
        self.same(blind_signs(Saying.void("axz")), "axz")
        # Doubling the first `a` changes nothing, doubling a later one does.
        self.same(blind_signs(saying_of_text("~a*&~<ba>|<baa>", "ab")), "b")
        for saying in some_sayings(350, 40):
            wanted = "".join(sign for sign in "ab" if not any(changing(saying, row, sign) for row in all_rows("ab", 7)))
            self.same(blind_signs(saying), wanted)

    def test_is_pace_blind(self):
        for saying in some_sayings(351, 40):
            for paced in PACES:
                by_rows = all((row in saying) == (squeezed(row, paced) in saying) for row in all_rows("ab", 8))
                self.same(is_pace_blind(saying, paced), by_rows)
        self.same(is_pace_blind(NO_AA, "ba"), False)
        self.same(is_pace_blind(NO_AA, "bb"), True)
        self.same(is_pace_blind(Saying.single("ab", "ab"), ""), True)

    def test_greater_sayings(self):
        ring = Saying("ab", [[(at + 1) % 60, at] for at in range(60)], [at == 30 for at in range(60)])
        self.same(blind_signs(ring), "b")
        self.same(is_pace_blind(ring, "b"), True)
        self.same(is_pace_blind(ring, "ab"), False)

    def test_unknown_signs(self):
        for call in (is_pace_blind, pace_example, blurred, sharpened):
            self.refuses(UnknownSign, "d", call, HAS_A, "adc")
            self.refuses(UnknownSign, "c", call, NO_AA, "c")


class TestExample(GrowsCase):
    def test_against_all_rows(self):
        kinds = set()
        for saying in some_sayings(352, 60):
            for paced in PACES:
                example = pace_example(saying, paced)
                found = [row for row in all_rows("ab", 7) if changing(saying, row, paced)]
                if example is None:
                    self.assertEqual(found, [])
                    self.assertTrue(is_pace_blind(saying, paced))
                else:
                    self.same(example, (found[0], changing(saying, found[0], paced)[0]))
                    kinds.add(len(changing(saying, found[0], paced)))
        self.assertLessEqual({1, 2}, kinds)

    def test_the_second_row_is_the_first_of_several(self):
        # The doublings of `aab` and `abb`: both change whether `ab` is in the saying.
        self.same(pace_example(Saying.single("ab", "ab"), "ba"), ("ab", "aab"))
        self.same(pace_example(Saying.single("ab", "ab"), "b"), ("ab", "abb"))
        # Doubling `a` changes nothing here, so the least doubled row is not the one.
        self.same(pace_example(saying_of_text("a*b", "ab"), "ab"), ("b", "bb"))
        self.same(pace_example(saying_of_text("aa*b", "ab"), "ab"), ("ab", "abb"))
        self.same(pace_example(saying_of_text("ba", "ab"), "ab"), ("ba", "baa"))

    def test_rows_that_are_not_in_the_saying_come_first_too(self):
        self.same(pace_example(saying_of_text("<aa>", "ab"), "a"), ("a", "aa"))
        self.same(pace_example(NO_AA, "a"), ("a", "aa"))
        self.same(pace_example(saying_of_text("bbb*", "ab"), "ab"), ("b", "bb"))

    def test_none_for_blind_sayings(self):
        self.same(pace_example(HAS_A, "ab"), None)
        self.same(pace_example(NO_AA, "b"), None)
        self.same(pace_example(NO_AA, ""), None)

    def test_the_greatest_sizes(self):
        ring = Saying("abcd", [[(at + 1) % 12, at, at, at] for at in range(12)], [at == 11 for at in range(12)])
        self.same(pace_example(ring, "dcba"), ("a" * 10, "a" * 11))
        # The sign `a` is doubled to no effect before eleven signs `b`.
        late = Saying("ab", [[11, at + 1] for at in range(10)] + [[10, 10], [11, 11]], [at == 10 for at in range(12)])
        self.same(is_pace_blind(late, "a"), True)
        self.same(pace_example(late, "ab"), ("b" * 9, "b" * 10))
        rng = seeded(353)
        for _ in range(4):
            saying = permuting(rng, "abcd", 12)
            row, other = pace_example(saying, "abcd")
            self.assertIn(other, changing(saying, row, "abcd"))


class TestBlurredAndSharpened(GrowsCase):
    def test_the_example(self):
        self.same(blurred(Saying.single("ab", "aab"), "a") == saying_of_text("aa*b", "ab"), True)

    def test_blurred(self):
        for saying in some_sayings(354, 30, 4):
            for paced in PACES:
                # Blocks of more than so many signs lead the states where shorter ones do.
                found = {squeezed(row, paced) for row in rows_in(saying, 10)}
                wanted = [row for row in all_rows("ab", 4) if squeezed(row, paced) in found]
                answer = blurred(saying, paced)
                if saying.size <= 3:
                    self.assertEqual(rows_in(answer, 3), [row for row in wanted if len(row) <= 3])
                self.assertLessEqual(set(wanted), set(rows_in(answer, 4)))
                self.assertTrue(is_pace_blind(answer, paced))
                self.assertTrue(saying <= answer)
                self.assertEqual(blurred(answer, paced), answer)

    def test_blurred_holds_nothing_else(self):
        for saying in some_sayings(355, 30):
            for paced in PACES:
                answer = blurred(saying, paced)
                rows = [row for row in rows_in(answer, 5) if squeezed(row, paced) == row]
                for row in rows:
                    self.assertTrue(self.some_row_of_this_pace(saying, row, paced), (saying.text(), row, paced))

    def some_row_of_this_pace(self, saying, row, paced):
        """Whether blocks instead of the paced signs of a squeezed row lead state 0 to a mark."""
        states = {0}
        for sign in row:
            states = {saying.step(state, sign) for state in states}
            for _ in range(saying.size if sign in paced else 0):
                states |= {saying.step(state, sign) for state in states}
        return any(saying.marks[state] for state in states)

    def test_sharpened(self):
        for saying in some_sayings(356, 30):
            for paced in PACES:
                answer = sharpened(saying, paced)
                self.assertEqual(answer, ~blurred(~saying, paced))
                self.assertTrue(is_pace_blind(answer, paced))
                self.assertTrue(answer <= saying)
        self.assertEqual(sharpened(saying_of_text("~(aab)", "ab"), "a"), saying_of_text("~(aa*b)", "ab"))
        self.assertTrue(sharpened(Saying.single("ab", "aab"), "a").is_void)
        self.assertEqual(sharpened(saying_of_text("aa*b|aab*", "ab"), "ab"), saying_of_text("0", "ab"))
        self.assertEqual(sharpened(saying_of_text("aa*b|bab*", "ab"), "a"), saying_of_text("aa*b", "ab"))

    def test_blind_sayings_stay(self):
        for saying in (HAS_A, ~HAS_A, saying_of_text("aa*bb*", "ab"), Saying.full("ab"), Saying.void("ab")):
            self.assertEqual(blurred(saying, "ab"), saying)
            self.assertEqual(sharpened(saying, "ba"), saying)
        for saying in some_sayings(357, 5):
            self.assertEqual(blurred(saying, ""), saying)
            self.assertEqual(sharpened(saying, ""), saying)

    def test_blocks_side_by_side(self):
        self.assertEqual(blurred(Saying.single("ab", "abba"), "ab"), saying_of_text("aa*bb*aa*", "ab"))
        self.assertEqual(blurred(Saying.single("abc", "ccabb"), "bc"), saying_of_text("cc*abb*", "abc"))
        self.assertEqual(blurred(saying_of_text("(aa)*b", "ab"), "a"), saying_of_text("a*b", "ab"))

    def test_the_greatest_sizes(self):
        rng = seeded(358)
        for saying in (permuting(rng, "abcd", 12), random_saying(rng, "abcd", 12)):
            for paced in ("abcd", "c"):
                self.assertTrue(is_pace_blind(blurred(saying, paced), paced))
                self.assertTrue(sharpened(saying, paced) <= saying)


if __name__ == "__main__":
    unittest.main()
