"""Patterns: texts that describe sets of rows, and the trees that they write."""

from stillgrows.errors import InvalidPattern
from stillgrows.words import LETTERS

PLAIN_TREES = {".": ("any",), "0": ("none",), "1": ("empty",)}
PLAIN_SIGNS = {"any": ".", "none": "0", "empty": "1"}
TWOS = {"|": "either", "&": "both"}
TWO_SIGNS = {"either": "|", "both": "&", "then": ""}
# What binds tighter has a greater number; a word that is not listed needs no parentheses.
BINDINGS = {"either": 1, "both": 2, "then": 3, "not": 4, "again": 5}
TIGHTEST = 6
OPENERS = {")": "(", ">": "<"}


class PatternReader:
    """Reads a pattern sign by sign, and keeps the trees and the words that are not applied yet."""

    def __init__(self):
        self.trees = []
        # Words of BINDINGS and opening brackets.
        self.pending = []
        # Whether the text so far ends with a whole pattern.
        self.whole = False

    def apply_last(self):
        """Apply the last word to the trees before it."""
        word = self.pending.pop()
        last = self.trees.pop()
        if word == "not":
            self.trees.append((word, last))
        else:
            first = self.trees.pop()
            self.trees.append((word, first, last))

    def apply_down_to(self, binding):
        """Apply the words behind the last bracket, from the last one on, that bind at least so tight."""
        while self.pending and BINDINGS.get(self.pending[-1], 0) >= binding:
            self.apply_last()

    def take_two(self, word):
        """Take a word that stands between two patterns."""
        self.apply_down_to(BINDINGS[word])
        self.pending.append(word)
        self.whole = False

    def begin_part(self):
        """Make room for a pattern; next to a whole one it is its neighbour."""
        if self.whole:
            self.take_two("then")

    def take_tree(self, tree):
        """Take the pattern of one sign."""
        self.begin_part()
        self.trees.append(tree)
        self.whole = True

    def take_before(self, word):
        """Take an opening bracket or a word that stands before a pattern."""
        self.begin_part()
        self.pending.append(word)

    def take_closer(self, sign):
        """Take a closing bracket; return whether it closes the last one that was opened."""
        self.apply_down_to(1)
        if not self.pending or self.pending.pop() != OPENERS[sign]:
            return False
        if sign == ">":
            inner = self.trees.pop()
            self.trees.append(("holds", inner))
        return True

    def take(self, sign):
        """Take the next sign of the text; return whether some pattern begins with the text so far."""
        if sign in LETTERS:
            self.take_tree(("sign", sign))
        elif sign in PLAIN_TREES:
            self.take_tree(PLAIN_TREES[sign])
        elif sign == "~":
            self.take_before("not")
        elif sign in ("(", "<"):
            self.take_before(sign)
        elif not self.whole:
            return False
        elif sign == "*":
            inner = self.trees.pop()
            self.trees.append(("again", inner))
        elif sign in TWOS:
            self.take_two(TWOS[sign])
        else:
            return sign in OPENERS and self.take_closer(sign)
        return True


def read_pattern(text):
    """Return the tree that the text writes, or raise InvalidPattern with the index of the fault."""
    reader = PatternReader()
    for at, sign in enumerate(text):
        if not reader.take(sign):
            raise InvalidPattern(at)
    if reader.whole:
        reader.apply_down_to(1)
    if not reader.whole or reader.pending:
        raise InvalidPattern(len(text))
    return reader.trees[0]


def part_text(tree, binding):
    """Return the text of a part, in parentheses if it binds less tight than asked for."""
    text = pattern_text(tree)
    return text if BINDINGS.get(tree[0], TIGHTEST) >= binding else f"({text})"


def pattern_text(tree):
    """Return the text that writes the tree and has the fewest parentheses."""
    word = tree[0]
    if word == "sign":
        return tree[1]
    if word in PLAIN_SIGNS:
        return PLAIN_SIGNS[word]
    if word == "holds":
        return f"<{pattern_text(tree[1])}>"
    binding = BINDINGS[word]
    if word == "again":
        return part_text(tree[1], binding) + "*"
    if word == "not":
        return "~" + part_text(tree[1], binding)
    # Equal words are grouped from the left, so the second part has to bind tighter.
    return part_text(tree[1], binding) + TWO_SIGNS[word] + part_text(tree[2], binding + 1)
