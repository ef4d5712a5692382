"""Which rules of placing keep groups whole, and which keep gaps open."""

from stillgrows.calls import Call


def keeps_whole(rule):
    """Tell whether no two calls are mixed in any layout of the rule.

    Under the link `whole` a group is written sign by sign, and what hangs on a sign is
    written to its end before the next sign; so of two groups, one stands between two
    neighbouring signs of the other one, or all of it stands beside the other one.
    """
    return rule.link == "whole"


def keeps_open(rule):
    """Tell whether no layout of the rule has a closed gap.

    Under the order `newest` a new call at the sign beside a gap is written first of all
    that hangs there. Under `oldest` it is written last, so nothing new can stand between
    a sign and what hangs on it already.
    """
    return rule.order == "newest"


def mixing_example(rule):
    """Return an opening row and calls, two of them mixed, or None if the rule keeps groups whole.

    Two mixed calls have two signs each, so no example has fewer calls or signs.
    """
    if keeps_whole(rule):
        return None
    return "", [Call(0, (0, 0), "ab"), Call(1, (0, 0), "cd")]


def closed_example(rule):
    """Return an opening row, calls and a closed gap, or None if the rule keeps gaps open.

    Without calls each gap can be reached from the sign beside it, so no example has fewer
    calls, and no call has fewer signs.
    """
    if keeps_open(rule):
        return None
    return "", [Call(0, (0,), "a")], 0 if rule.side == "after" else 1
