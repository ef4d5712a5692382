"""Views: sayings with lots, compared by the verdicts that they tell."""

from stillgrows.firsts import first_row
from stillgrows.sayings import check_same_signs
from stillgrows.sures import may_saying, sure_saying


def differing(saying, lot, other_saying, other_lot):
    """Return the saying of the rows of which the two views tell different verdicts."""
    check_same_signs(saying, other_saying)
    # A row is never if it is not even possible, so nothing but these two has to be compared.
    sure = sure_saying(saying, lot) ^ sure_saying(other_saying, other_lot)
    possible = may_saying(saying, lot) ^ may_saying(other_saying, other_lot)
    return sure | possible


def agreeing(saying, lot, other_saying, other_lot):
    """Return the saying of the rows of which the two views tell the same verdict."""
    return ~differing(saying, lot, other_saying, other_lot)


def parting_verdict(saying, lot, other_saying, other_lot):
    """Return the first row of which the two views tell different verdicts, or None."""
    return first_row(differing(saying, lot, other_saying, other_lot))


def same_tellings(saying, lot, other_saying, other_lot):
    """Tell whether the two views tell the same verdict of every row."""
    return differing(saying, lot, other_saying, other_lot).is_void


def implies(saying, other, lot):
    """Tell whether each row that is sure for the saying and the lot is sure for the other saying and the lot."""
    check_same_signs(saying, other)
    return sure_saying(saying, lot) <= sure_saying(other, lot)
