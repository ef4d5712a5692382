"""Stations that pool what they have heard."""

from stillgrows.placing import different_calls, row_of
from stillgrows.stations import verdict_for


def pooled_calls(first, *others):
    """Return the list of the calls that at least one of the stations has heard, by their stamps."""
    calls = first.heard
    for other in others:
        calls.extend(other.heard)
    return different_calls(calls)


def pooled_row(first, *others):
    """Return the row of the pooled calls, by the rule and the opening row of `first`."""
    return row_of(first.rule, first.start, pooled_calls(first, *others))


def pooled_verdict(saying, first, *others):
    """Return the verdict of the pooled row for the saying and the judged lot of `first`."""
    return verdict_for(first, pooled_row(first, *others), saying)
