"""Least rows of a saying: those from which no leaving leads to another row of it."""

from stillgrows.closures import check_lot
from stillgrows.errors import NotGrowing, NotHolding
from stillgrows.firsts import longest_length
from stillgrows.growths import Growth
from stillgrows.leaves import leave, leavings
from stillgrows.making import holding
from stillgrows.sayings import Saying
from stillgrows.takeouts import one_leaving
from stillgrows.words import check_row, check_signs


def is_followed(saying, state, other):
    """Tell whether each row that leads the state to a mark leads the other state to a mark."""
    pairs = [(state, other)]
    found = {pairs[0]: True}
    at = 0
    while at < len(pairs):
        p, q = pairs[at]
        if saying.marks[p] and not saying.marks[q]:
            return False
        for pair in zip(saying.table[p], saying.table[q]):
            if pair not in found:
                found[pair] = True
                pairs.append(pair)
        at += 1
    return True


def leads_out(saying, group):
    """Tell whether some join of the group leads from a row of the saying out of it."""
    return not all([is_followed(saying, state, saying.state_after(group, state)) for state in range(saying.size)])


def least_saying(saying, lot):
    """Return the saying of the least rows, or raise NotGrowing."""
    check_lot(lot, saying.signs)
    for group in lot.groups:
        if leads_out(saying, group):
            raise NotGrowing(group)
    return saying - one_leaving(saying, lot)


def first_leaving(saying, lot, row):
    """Return the first leaving that leads the row to a row of the saying, or None."""
    for gap, group in leavings(row, lot):
        if leave(row, gap, group) in saying:
            return gap, group
    return None


def least_below(saying, lot, row):
    """Return the growth from a least row that takes back the first leavings within the saying."""
    check_lot(lot, saying.signs)
    check_row(row, saying.signs)
    if row not in saying:
        raise NotHolding(row)
    left = []
    found = first_leaving(saying, lot, row)
    while found is not None:
        left.append(found)
        row = leave(row, found[0], found[1])
        found = first_leaving(saying, lot, row)
    return Growth(row, left[::-1])


def group_free(signs, lot):
    """Return the saying of the rows over the alphabet that hold no group of the lot."""
    check_lot(lot, check_signs(signs))
    free = Saying.full(signs)
    for group in lot.groups:
        free = free - holding(signs, group)
    return free


def holding_length(signs, lot):
    """Return the smallest length from which on every row holds a group of the lot, or None."""
    longest = longest_length(group_free(signs, lot))
    return None if longest is None else longest + 1
