"""The sayings that patterns describe."""

from stillgrows.making import followed, repeated
from stillgrows.patterns import read_pattern
from stillgrows.sayings import Saying
from stillgrows.words import check_signs


def one_sign(signs):
    """Return the saying of all rows of exactly one sign."""
    many = len(signs)
    return Saying(signs, [[1] * many, [2] * many, [2] * many], [False, True, False])


def meaning(tree, signs):
    """Return the saying of the tree.

    The parts are gone through in the order of the text, so the first letter in it that is
    not in the alphabet is the one that is refused.
    """
    word = tree[0]
    if word == "sign":
        return Saying.single(signs, tree[1])
    if word == "any":
        return one_sign(signs)
    if word == "none":
        return Saying.void(signs)
    if word == "empty":
        return Saying.single(signs, "")
    parts = [meaning(part, signs) for part in tree[1:]]
    if word == "again":
        return repeated(parts[0])
    if word == "holds":
        return followed(Saying.full(signs), parts[0], Saying.full(signs))
    if word == "not":
        return ~parts[0]
    if word == "then":
        return followed(parts[0], parts[1])
    if word == "both":
        return parts[0] & parts[1]
    return parts[0] | parts[1]


def saying_of(tree, signs):
    """Return the saying over the alphabet of the rows that the tree describes."""
    return meaning(tree, check_signs(signs))


def saying_of_text(text, signs):
    """Return the saying over the alphabet of the pattern that the text writes."""
    return saying_of(read_pattern(text), signs)
