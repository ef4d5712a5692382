"""Joins inside joins, and the bracketed text that shows them."""

from stillgrows.errors import InvalidText
from stillgrows.growths import Growth
from stillgrows.words import is_letters


def bracketed(growth):
    """Return the bracketed text of the growth."""
    text = ""
    for sign, (owner, place) in zip(growth.row, growth.owners()):
        before = "(" if owner > 0 and place == 1 else ""
        behind = ")" if owner > 0 and place == len(growth.joins[owner - 1][1]) else ""
        text = text + before + sign + behind
    return text


def is_bracketed(text):
    """Tell whether the text is the bracketed text of a growth."""
    if not is_letters(text.replace("(", "").replace(")", "")):
        return False
    # Where "(" has no letter behind it or ")" none before it at an end of the text,
    # the parentheses do not match, so only two parentheses side by side are looked for.
    if "((" in text or "()" in text or "))" in text:
        return False
    level = 0
    for sign in text:
        if sign == "(":
            level += 1
        elif sign == ")":
            level -= 1
        if level < 0:
            return False
    return level == 0


def read_bracketed(text):
    """Return the growth in order with this bracketed text, or raise InvalidText."""
    if not is_bracketed(text):
        raise InvalidText(text)
    words = [""]
    gaps = []
    around = [0]
    many = 0
    for sign in text:
        if sign == "(":
            gaps.append(many)
            around.append(len(words))
            words.append("")
        elif sign == ")":
            around.pop()
        else:
            words[around[-1]] = words[around[-1]] + sign
            many += 1
    return Growth(words[0], list(zip(gaps, words[1:])))


def parents(growth):
    """Return for each join the index of the innermost join inside which it stands, or None."""
    innermost = [None] * len(growth.joins)
    around = [None]
    for owner, place in growth.owners():
        if owner > 0 and place == 1:
            innermost[owner - 1] = around[-1]
            around.append(owner - 1)
        if owner > 0 and place == len(growth.joins[owner - 1][1]):
            around.pop()
    return innermost


def depth(growth):
    """Return how many joins stand one inside the other at most."""
    levels = []
    for parent in parents(growth):
        # A join stands only inside earlier ones, so the level of its parent is known.
        levels.append(1 if parent is None else levels[parent] + 1)
    return max([int(level) for level in levels], default=0)
