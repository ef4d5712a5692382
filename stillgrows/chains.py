"""Chains of the words "sure", "may" and "not", which make one saying from another one."""

from stillgrows.closures import check_lot
from stillgrows.errors import UnknownName
from stillgrows.fates import no_saying, yes_saying
from stillgrows.sures import may_saying, sure_saying

OTHERS = {"sure": "may", "may": "sure"}
PLAIN_CHAINS = ((), ("sure",), ("may",), ("sure", "may"), ("may", "sure"))


def check_words(words):
    """Raise UnknownName with the first word that is not one of the three."""
    for word in words:
        if word != "not" and word not in OTHERS:
            raise UnknownName(word)


def with_word_in_front(plain, word):
    """Return the shortened chain of "sure" or "may" and of a shortened chain without "not".

    A word that the chain has already changes nothing: "sure", "may", "sure" is as good as
    "may", "sure", and so it is with the words exchanged.
    """
    return plain if word in plain else [word] + plain


def shortened(words):
    """Return the shortened chain."""
    check_words(words)
    plain = []
    negated = False
    for word in list(words)[::-1]:
        if word == "not":
            negated = not negated
        else:
            # A "not" behind the word goes to the front of it, and the word becomes the other one.
            plain = with_word_in_front(plain, OTHERS[word] if negated else word)
    return ["not"] + plain if negated else plain


def all_chains():
    """Return the list of the ten shortened chains."""
    plain = [list(words) for words in PLAIN_CHAINS]
    return plain + [["not"] + words for words in plain]


def plain_saying(saying, lot, words):
    """Return the saying that a shortened chain without "not" makes.

    Rows that grow to a sure one have the fate "yes". Rows that grow to such alone from
    which the saying can still be reached are those that grow to no never one.
    """
    if words == ["sure"]:
        return sure_saying(saying, lot)
    if words == ["may"]:
        return may_saying(saying, lot)
    if words == ["may", "sure"]:
        return yes_saying(saying, lot)
    return ~no_saying(saying, lot) if words else saying


def chain_saying(saying, lot, words):
    """Return the saying that the chain makes from the saying."""
    chain = shortened(words)
    check_lot(lot, saying.signs)
    if chain[:1] == ["not"]:
        return ~plain_saying(saying, lot, chain[1:])
    return plain_saying(saying, lot, chain)
