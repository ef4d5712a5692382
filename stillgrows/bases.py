"""Groups that come from other groups, and the bases of lots."""

from stillgrows.derive import comes, find_growth
from stillgrows.growths import Growth
from stillgrows.lots import Lot


def base(lot):
    """Return the lot of the groups that do not come from the other groups."""
    return Lot([group for group in lot if not comes("", group, lot - Lot.of(group))])


def covers(lot, other):
    """Tell whether each group of the other lot comes from the lot."""
    return all([comes("", group, lot) for group in other])


def alike(lot, other):
    """Tell whether the empty row grows to the same rows by both lots."""
    return covers(lot, other) and covers(other, lot)


def parting_group(lot, other):
    """Return the first group of the lots that comes from exactly one of them, or None."""
    for group in lot | other:
        if comes("", group, lot) != comes("", group, other):
            return group
    return None


def retold(growth, lot):
    """Return the growth with each join replaced by as few joins of groups of the lot as possible, or None."""
    joins = []
    for gap, group in growth.joins:
        pieces = find_growth("", group, lot)
        if pieces is None:
            return None
        joins.extend([(gap + k, piece) for k, piece in pieces.joins])
    return Growth(growth.start, joins)
