import itertools
import unittest

from helpers import GrowsCase, some_growths
from stillgrows.apart import in_order
from stillgrows.errors import InvalidText
from stillgrows.growths import Growth
from stillgrows.nests import bracketed, depth, parents, read_bracketed


def insides(growth):
    """For each join the indexes of those inside which it stands, as point [27] says."""
    spots = {}
    for at, (owner, _) in enumerate(growth.owners()):
        spots.setdefault(owner, []).append(at)
    return [
        [other for other in range(len(growth))
         if min(spots[other + 1]) < min(spots[own + 1]) and max(spots[own + 1]) < max(spots[other + 1])]
        for own in range(len(growth))
    ]


def matches(text):
    """Whether the parentheses match, each "(" is before a letter and each ")" behind one."""
    level = 0
    for at, sign in enumerate(text):
        level += {"(": 1, ")": -1}.get(sign, 0)
        if level < 0 or (sign == "(" and not text[at + 1:at + 2].isalpha()):
            return False
        if sign == ")" and not (at and text[at - 1].isalpha()):
            return False
    return level == 0


class TestBracketed(GrowsCase):
    def test_the_examples(self):
        self.assertEqual(bracketed(Growth.read("ab: 1 cd, 2 e")), "a(c(e)d)b")
        self.assertEqual(bracketed(Growth.read(": 0 a, 1 b")), "(a)(b)")
        self.assertEqual(bracketed(Growth("")), "")
        self.assertEqual(bracketed(Growth("ab")), "ab")

    def test_a_join_inside_an_earlier_one(self):
        self.assertEqual(bracketed(Growth.read("x: 0 abc, 1 d, 3 ef, 4 g")), "(a(d)b(e(g)f)c)x")

    def test_read(self):
        self.assertEqual(read_bracketed("a(c(e)d)b").text(), "ab: 1 cd, 2 e")
        self.assertEqual(read_bracketed("(a)(b)").text(), ": 0 a, 1 b")
        self.assertEqual(read_bracketed("").text(), ": -")
        self.assertEqual(read_bracketed("abz").text(), "abz: -")
        self.assertEqual(read_bracketed("(a(b)c(d)e)f").text(), "f: 0 ace, 1 b, 3 d")

    def test_each_growth_in_order_is_read_back(self):
        for growth in some_growths(13):
            self.assertEqual(read_bracketed(bracketed(growth)), in_order(growth))

    def test_all_short_texts(self):
        for length in range(8):
            for signs in itertools.product("a()", repeat=length):
                text = "".join(signs)
                if matches(text):
                    self.assertEqual(bracketed(read_bracketed(text)), text)
                else:
                    self.refuses(InvalidText, text, read_bracketed, text)

    def test_texts_that_are_refused(self):
        for text in ("(", ")", "()", "((a))", "(a", "a)", ")a(", "(a))", "a()b", "A", "a b", "(a )", "a-b", "[a]", "~",
                     "(1)", "a(b(c)", "((a)b)", "(a(b))"):
            self.refuses(InvalidText, text, read_bracketed, text)


class TestParents(GrowsCase):
    def test_ordinary(self):
        self.assertEqual(parents(Growth.read("ab: 1 cd, 2 e, 0 f")), [None, 0, None])
        self.assertEqual(parents(Growth.read(": 0 ab, 1 cd, 2 ef, 1 g")), [None, 0, 1, 0])
        self.assertEqual(parents(Growth("ab")), [])
        # A group may come to stand around the place of a later join only.
        self.assertEqual(parents(Growth.read(": 0 a, 0 bc, 1 d")), [None, None, 1])

    def test_against_the_words_of_point_27(self):
        for growth in some_growths(13):
            around = insides(growth)
            wanted = [max(others, key=lambda other: len(around[other]), default=None) for others in around]
            self.assertEqual(parents(growth), wanted)
            self.assertEqual(depth(growth), max([len(others) + 1 for others in around], default=0))

    def test_depth(self):
        self.same(depth(Growth("ab")), 0)
        self.assertEqual(depth(Growth.read("ab: 1 cd")), 1)
        self.assertEqual(depth(Growth.read(": 0 a, 1 b")), 1)
        self.assertEqual(depth(Growth.read("ab: 1 cd, 2 e")), 2)
        self.assertEqual(depth(Growth("", [(k, "ab") for k in range(100)])), 100)

    def test_the_list_is_a_new_one(self):
        growth = Growth.read("ab: 1 cd, 2 e")
        parents(growth).append(7)
        self.assertEqual(parents(growth), [None, 0])
        self.assertEqual(growth.text(), "ab: 1 cd, 2 e")


if __name__ == "__main__":
    unittest.main()
