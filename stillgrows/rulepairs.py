"""Rules compared by the rows that they make."""

from stillgrows.calls import Call
from stillgrows.placing import row_of


def same_row(rule, other, start, calls):
    """Tell whether both rules make the same row of the opening row and the calls."""
    return row_of(rule, start, calls) == row_of(other, start, calls)


def examples():
    """Return the three examples that tell any two rules apart, as tuples of an opening row and calls.

    The first one tells the sides apart, the second one the orders, and the third one the links.
    """
    return [("a", [Call(0, (0,), "b")]),
            ("", [Call(0, (0,), "a"), Call(0, (1,), "b")]),
            ("", [Call(0, (0,), "ab"), Call(0, (1,), "cd")])]


def parting_calls(rule, other):
    """Return the first example of which the two rules make different rows, or None if they are equal."""
    for start, calls in examples():
        if not same_row(rule, other, start, calls):
            return start, calls
    return None
