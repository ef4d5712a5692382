"""Verdicts: whether all rows to which a row grows are in a saying, or none, or some."""

from stillgrows.costs import cheapest_growth


def verdict_of(marks, ends):
    """Return the verdict on a row with these ends."""
    if all([marks[state] for state in ends]):
        return "sure"
    return "open" if any([marks[state] for state in ends]) else "never"


def verdict(spread, row):
    """Return the verdict on the row: "sure", "never" or "open"."""
    return verdict_of(spread.marks, spread.ends(row))


def marked_states(saying, mark):
    """Return the list of the states that have the mark."""
    return [state for state, found in enumerate(saying.marks) if found == mark]


def growth_out(saying, lot, row, *, most=None):
    """Return a growth with as few joins as possible to a row that is not in the saying, or None."""
    return cheapest_growth(saying, lot, row, marked_states(saying, False), most=most)


def growth_in(saying, lot, row, *, most=None):
    """Return a growth with as few joins as possible to a row of the saying, or None."""
    return cheapest_growth(saying, lot, row, marked_states(saying, True), most=most)
