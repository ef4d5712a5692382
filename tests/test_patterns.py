import itertools
import unittest

from helpers import GrowsCase, seeded
from stillgrows.errors import InvalidPattern
from stillgrows.patterns import pattern_text, read_pattern

PLAIN = {".": ("any",), "0": ("none",), "1": ("empty",)}
SIGNS = "ab.01*~&|()<>"


def parts_at(text, sign):
    """The pieces of the text between the signs of this kind that stand in no bracket."""
    pieces, level = [""], 0
    for found in text:
        level += (found in "(<") - (found in ")>")
        if found == sign and level == 0:
            pieces.append("")
        else:
            pieces[-1] += found
    return pieces


def factors(text):
    """The patterns that stand next to each other in a text without `&` and `|` outside of brackets."""
    found, level = [], 0
    for sign in text:
        if level == 0 and sign != "*" and not (found and set(found[-1]) == {"~"}):
            found.append("")
        if not found:
            return None
        found[-1] += sign
        level += (sign in "(<") - (sign in ")>")
    return found


def plain_tree(text):
    """The tree of a text, or None if it is not one of a pattern: a reading by cutting it into pieces."""
    levels = list(itertools.accumulate((sign in "(<") - (sign in ")>") for sign in text))
    if text == "" or levels[-1] != 0 or min(levels) < 0:
        return None
    for sign, name in (("|", "either"), ("&", "both")):
        pieces = parts_at(text, sign)
        if len(pieces) > 1:
            return grouped(name, [plain_tree(piece) for piece in pieces])
    pieces = factors(text)
    if pieces is None:
        return None
    if len(pieces) > 1:
        return grouped("then", [plain_tree(piece) for piece in pieces])
    if text[0] == "~":
        inner = plain_tree(text[1:])
        return inner and ("not", inner)
    if len(text) > 1 and text[-1] == "*":
        inner = plain_tree(text[:-1])
        return inner and ("again", inner)
    if text[0] + text[-1] in ("()", "<>") and len(text) > 2:
        inner = plain_tree(text[1:-1])
        return inner and (("holds", inner) if text[0] == "<" else inner)
    if len(text) == 1 and text.islower():
        return ("sign", text)
    return PLAIN.get(text)


def grouped(name, trees):
    if None in trees:
        return None
    whole = trees[0]
    for tree in trees[1:]:
        whole = (name, whole, tree)
    return whole


def can_begin(text):
    """Whether some pattern begins with the text: brackets that are open are closed, if need be behind a sign."""
    most = text.count("(") + text.count("<")
    ends = ["".join(end) for many in range(most + 1) for end in itertools.product(")>", repeat=many)]
    return any(plain_tree(text + sign + end) is not None for sign in ("", "a") for end in ends)


def plain_fault(text):
    for at in range(len(text)):
        if not can_begin(text[:at + 1]):
            return at
    return len(text)


def random_tree(rng, many):
    """A tree with `many` letters, dots and digits."""
    if many == 1:
        tree = rng.choice([("sign", "a"), ("sign", "z"), ("any",), ("none",), ("empty",)])
    else:
        first = rng.randint(1, many - 1)
        tree = (rng.choice(["then", "both", "either"]), random_tree(rng, first), random_tree(rng, many - first))
    for _ in range(rng.choice([0, 0, 1, 2])):
        tree = (rng.choice(["again", "holds", "not"]), tree)
    return tree


def pairs_of_parentheses(text):
    waiting, pairs = [], []
    for at, sign in enumerate(text):
        if sign == "(":
            waiting.append(at)
        elif sign == ")":
            pairs.append((waiting.pop(), at))
    return pairs


class TestReading(GrowsCase):
    def check_reading(self, text):
        tree = plain_tree(text)
        if tree is None:
            self.refuses(InvalidPattern, plain_fault(text), read_pattern, text)
        else:
            self.assertEqual(read_pattern(text), tree)

    def test_the_forms(self):
        a, b, c = ("sign", "a"), ("sign", "b"), ("sign", "c")
        for text, tree in (
            ("a", a), ("z", ("sign", "z")), (".", ("any",)), ("0", ("none",)), ("1", ("empty",)), ("a*", ("again", a)),
            ("<a>", ("holds", a)), ("~a", ("not", a)), ("ab", ("then", a, b)), ("a&b", ("both", a, b)),
            ("a|b", ("either", a, b)), ("(a)", a), ("((a))", a), ("<(a)>", ("holds", a)),
            ("abc", ("then", ("then", a, b), c)), ("a(bc)", ("then", a, ("then", b, c))),
            ("a&b&c", ("both", ("both", a, b), c)), ("a&(b&c)", ("both", a, ("both", b, c))),
            ("a|b|c", ("either", ("either", a, b), c)), ("a|(b|c)", ("either", a, ("either", b, c))),
            ("a|b&c", ("either", a, ("both", b, c))), ("a&b|c", ("either", ("both", a, b), c)),
            ("(a|b)&c", ("both", ("either", a, b), c)), ("a&bc", ("both", a, ("then", b, c))),
            ("~ab", ("then", ("not", a), b)), ("a~b", ("then", a, ("not", b))), ("~(ab)", ("not", ("then", a, b))),
            ("~a*", ("not", ("again", a))), ("(~a)*", ("again", ("not", a))), ("a**", ("again", ("again", a))),
            ("~~a", ("not", ("not", a))), ("ab*", ("then", a, ("again", b))), ("(ab)*", ("again", ("then", a, b))),
            ("<a|b>*c", ("then", ("again", ("holds", ("either", a, b))), c)), ("a<b>", ("then", a, ("holds", b))),
        ):
            self.assertEqual(read_pattern(text), tree)

    def test_the_example(self):
        a, b, c, d = [("sign", sign) for sign in "abcd"]
        tree = ("either", ("then", ("not", ("again", a)), b), ("then", ("then", c, d), ("any",)))
        self.assertEqual(read_pattern("~a*b|cd."), tree)
        self.assertEqual(read_pattern("((~(a*))b)|((cd).)"), tree)

    def test_the_refusals_that_are_written_out(self):
        for text, index in (("a|)", 2), ("<a)", 2), ("(a", 2), ("", 0)):
            self.refuses(InvalidPattern, index, read_pattern, text)

    def test_refusals_at_the_first_character_in_the_middle_and_at_the_end(self):
        for text, index in (
            ("*", 0), ("|a", 0), ("&", 0), (")", 0), (">", 0), (" a", 0), ("A", 0), ("2", 0), ("-", 0), ("[a]", 0),
            ("a b", 1), ("a+", 1), ("a9", 1), ("ab)c", 2), ("a>", 1), ("(a>", 2), ("a||b", 2), ("a&|b", 2), ("()", 1),
            ("<>", 1), ("(*a)", 1), ("~*a", 1), ("a~*", 2), ("a|*", 2), ("((a)))", 5), ("<(a>)", 3), ("a{", 1),
            ("~", 1), ("a|", 2), ("a&", 2), ("(", 1), ("<", 1), ("a(", 2), ("a~", 2), ("((a)", 4), ("<a", 2),
            ("<(a)", 4), ("(a|", 3), ("~~", 2), ("a(b|c", 5),
        ):
            self.refuses(InvalidPattern, index, read_pattern, text)

    def test_all_short_texts_against_a_plain_reading(self):
        for length in range(5):
            for signs in itertools.product(SIGNS if length < 4 else "a*~&|()<>", repeat=length):
                self.check_reading("".join(signs))

    def test_longer_texts_against_a_plain_reading(self):
        rng = seeded(23)
        for _ in range(1500):
            text = pattern_text(random_tree(rng, rng.randint(1, 4)))
            for _ in range(rng.choice([0, 1, 1, 2])):
                at = rng.randint(0, len(text))
                text = text[:at] + rng.choice(["", rng.choice(SIGNS)]) + text[at + 1:]
            if len(text) <= 12 and text.count("(") + text.count("<") <= 6:
                self.check_reading(text)

    def test_texts_of_40_characters(self):
        self.assertEqual(read_pattern("(" * 19 + "a" + ")" * 19), ("sign", "a"))
        tree = ("sign", "a")
        for _ in range(39):
            tree = ("not", tree)
        self.assertEqual(read_pattern("~" * 39 + "a"), tree)
        self.refuses(InvalidPattern, 40, read_pattern, "(" * 40)
        self.refuses(InvalidPattern, 40, read_pattern, "~" * 40)


class TestTexts(GrowsCase):
    def test_the_example(self):
        self.assertEqual(pattern_text(read_pattern("(a)((bc)*)")), "a(bc)*")

    def test_texts(self):
        for text, shortest in (
            ("((a))", "a"), ("(ab)c", "abc"), ("a(bc)", "a(bc)"), ("(a&b)&c", "a&b&c"), ("a&(b&c)", "a&(b&c)"),
            ("(a|b)|c", "a|b|c"), ("a|(b|c)", "a|(b|c)"), ("(ab)&c", "ab&c"), ("(a&b)c", "(a&b)c"), ("a(b|c)", "a(b|c)"),
            ("(a&b)|(c&d)", "a&b|c&d"), ("(a|b)&c", "(a|b)&c"), ("~(a)", "~a"), ("~(ab)", "~(ab)"), ("(~a)b", "~ab"),
            ("a(~b)", "a~b"), ("~(~a)", "~~a"), ("~(a*)", "~a*"), ("(~a)*", "(~a)*"), ("(a*)*", "a**"), ("(ab)*", "(ab)*"),
            ("<(a|b)>", "<a|b>"), ("(<a>)*", "<a>*"), ("(.)(0)(1)", ".01"), ("(a|b)(c|d)", "(a|b)(c|d)"),
            ("~(a&b)", "~(a&b)"), ("((~(a*))b)|((cd).)", "~a*b|cd."),
        ):
            self.assertEqual(pattern_text(read_pattern(text)), shortest)

    def test_each_tree_is_read_back_and_no_parentheses_can_be_left_out(self):
        rng = seeded(24)
        for _ in range(3000):
            tree = random_tree(rng, rng.randint(1, 6))
            text = pattern_text(tree)
            self.assertEqual(read_pattern(text), tree)
            for first, last in pairs_of_parentheses(text):
                shorter = text[:first] + text[first + 1:last] + text[last + 1:]
                try:
                    self.assertNotEqual(read_pattern(shorter), tree)
                except InvalidPattern:
                    pass

    def test_no_text_with_fewer_parentheses_writes_the_tree(self):
        best = {}
        for length in range(1, 7):
            for signs in itertools.product("a*~&|()", repeat=length):
                text = "".join(signs)
                tree = plain_tree(text)
                if tree is not None:
                    best.setdefault(tree, []).append((text.count("("), text))
        for tree, texts in best.items():
            self.assertEqual(pattern_text(tree), min(texts)[1])
            self.assertEqual([many for many, _ in texts].count(min(texts)[0]), 1)


if __name__ == "__main__":
    unittest.main()
