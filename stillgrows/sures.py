"""The sayings of the rows that are sure, never or open, and of those that may still get somewhere."""

from stillgrows.spreads import ending_masks, plain_spread
from stillgrows.subsets import mask_of, saying_of_masks


def ending_saying(spread, mark):
    """Return the saying of the rows of which some end has the mark."""
    first, columns = ending_masks(spread)
    marks = mask_of([state for state, found in enumerate(spread.marks) if found == mark])
    return saying_of_masks(spread.signs, first, columns, marks)


def sure_of(spread):
    """Return the saying of the rows whose verdict is "sure"."""
    return ~ending_saying(spread, False)


def may_of(spread):
    """Return the saying of the rows that have a marked end."""
    return ending_saying(spread, True)


def sure_saying(saying, lot):
    """Return the saying of the rows that grow to rows of the saying alone."""
    return sure_of(plain_spread(saying, lot))


def may_saying(saying, lot):
    """Return the saying of the rows that grow to at least one row of the saying."""
    return may_of(plain_spread(saying, lot))


def never_saying(saying, lot):
    """Return the saying of the rows that grow to no row of the saying."""
    return ~may_saying(saying, lot)


def open_saying(saying, lot):
    """Return the saying of the rows that grow to some rows of the saying and to some others."""
    spread = plain_spread(saying, lot)
    return may_of(spread) - sure_of(spread)
