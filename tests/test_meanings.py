import unittest

from helpers import GrowsCase, all_rows, rows_in, seeded
from stillgrows.errors import InvalidPattern, InvalidSigns, UnknownSign
from stillgrows.meanings import saying_of, saying_of_text
from stillgrows.patterns import pattern_text, read_pattern
from stillgrows.sayings import Saying

LONGEST = 4


def plain_rows(tree, signs):
    """The rows of a tree with at most LONGEST signs; `not` and `holds` keep to this length too."""
    every = all_rows(signs, LONGEST)
    word, parts = tree[0], [plain_rows(part, signs) for part in tree[1:] if isinstance(part, tuple)]
    if word == "sign":
        return {tree[1]}
    if word == "any":
        return set(signs)
    if word == "none":
        return set()
    if word == "empty":
        return {""}
    if word == "again":
        found = {""}
        while True:
            more = found | {x + y for x in found for y in parts[0] if len(x + y) <= LONGEST}
            if more == found:
                return found
            found = more
    if word == "holds":
        return {row for row in every if any(inner in row for inner in parts[0])}
    if word == "not":
        return set(every) - parts[0]
    if word == "then":
        return {x + y for x in parts[0] for y in parts[1] if len(x + y) <= LONGEST}
    return parts[0] & parts[1] if word == "both" else parts[0] | parts[1]


def random_tree(rng, atoms):
    if atoms == 1:
        tree = rng.choice([("sign", rng.choice("ab")), ("any",), ("none",), ("empty",)])
    else:
        left = rng.randint(1, atoms - 1)
        tree = (rng.choice(("then", "both", "either")), random_tree(rng, left), random_tree(rng, atoms - left))
    while rng.random() < 0.4:
        tree = (rng.choice(("again", "holds", "not")), tree)
    return tree


class TestMeanings(GrowsCase):
    def test_each_form(self):
        wanted = {"a": ["a"], ".": ["a", "b"], "0": [], "1": [""], "a*": ["", "a", "aa"], "<ab>": ["ab"],
                  "~a": ["", "b", "aa", "ab", "ba", "bb"], "ab": ["ab"], "<a>&<b>": ["ab", "ba"],
                  "a|bb": ["a", "bb"], "(ab)*": ["", "ab"], "<1>": all_rows("ab", 2), "<0>": [], "0*": [""],
                  "1*": [""], "~0": all_rows("ab", 2), "a0": [], "1a": ["a"], "~~a": ["a"], "~(~a)b": ["ab"],
                  ".*a": ["a", "aa", "ba"], "(a|b)b*": ["a", "b", "ab", "bb"]}
        for text, rows in wanted.items():
            found = saying_of_text(text, "ab")
            self.same(rows_in(found, 2), rows)
            self.assertEqual(found.signs, "ab")
            self.assertEqual(saying_of(read_pattern(text), "ab"), found)

    def test_random_trees_against_their_plain_meaning(self):
        rng = seeded(50)
        for signs in ("ab", "abc"):
            for _ in range(250):
                tree = random_tree(rng, rng.randint(1, 6))
                if len(pattern_text(tree)) > 40:
                    continue
                rows = plain_rows(tree, signs)
                wanted = [row for row in all_rows(signs, LONGEST) if row in rows]
                self.assertEqual(rows_in(saying_of(tree, signs), LONGEST), wanted, pattern_text(tree))

    def test_the_alphabet_tells_which_rows_there_are(self):
        self.assertEqual(rows_in(saying_of(("any",), "abcd"), 2), ["a", "b", "c", "d"])
        self.assertEqual(saying_of(("not", ("sign", "c")), "c").text(), "c: 1 +, 2 -, 2 +")
        self.assertEqual(saying_of_text("<a>", "ab").text(), "ab: 1 0 -, 1 1 +")
        self.assertEqual(saying_of_text(".*", "ab"), Saying.full("ab"))

    def test_the_first_error(self):
        self.refuses(InvalidPattern, 2, saying_of_text, "a|)", "ba")
        self.refuses(InvalidPattern, 0, saying_of_text, "", "")
        self.refuses(InvalidPattern, 2, saying_of_text, "z|", "ab")
        self.refuses(InvalidSigns, "ba", saying_of_text, "z", "ba")
        self.refuses(InvalidSigns, "", saying_of, ("sign", "z"), "")
        self.refuses(InvalidSigns, "abcde", saying_of, ("any",), "abcde")

    def test_the_first_letter_that_the_alphabet_lacks(self):
        self.refuses(UnknownSign, "c", saying_of_text, "(a|c)*~(d&e)", "ab")
        self.refuses(UnknownSign, "d", saying_of_text, "<ad>cz", "ab")
        self.refuses(UnknownSign, "z", saying_of_text, "0z", "ab")
        self.refuses(UnknownSign, "b", saying_of, ("then", ("both", ("sign", "a"), ("sign", "b")), ("sign", "c")), "a")
        self.refuses(UnknownSign, "c", saying_of, ("either", ("again", ("sign", "c")), ("not", ("sign", "b"))), "a")

    def test_long_texts(self):
        for text in ("~(~(~(~(a.b)*..)*<a>)*&~b)*", "((((((((((((((((a))))))))))))))))*****",
                     "~~~~~~~~~~~~~~~~~~~~~~~~~~~~~~~~~<a.b.>", "<a.....>", "<<<<a>.b>.>*.>*"):
            saying = saying_of_text(text, "abcd")
            self.assertEqual("abab" in saying, "abab" in plain_rows(read_pattern(text), "abcd"), text)


if __name__ == "__main__":
    unittest.main()
