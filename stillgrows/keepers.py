"""Rows that fit into a saying, and the lots under whose joins it is closed."""

from stillgrows.derive import comes
from stillgrows.errors import GapOutOfRange
from stillgrows.firsts import first_row, first_words
from stillgrows.leasts import is_followed
from stillgrows.lots import Lot
from stillgrows.sayings import Saying
from stillgrows.takeouts import one_join
from stillgrows.words import check_group, check_row, rows_up_to


def fitting(saying, row, gap):
    """Return the saying of the rows that can be put into the gap of the row."""
    check_row(row, saying.signs)
    if not 0 <= gap <= len(row):
        raise GapOutOfRange(gap)
    marks = [saying.marks[saying.state_after(row[gap:], state)] for state in range(saying.size)]
    return Saying(saying.signs, saying.table, marks) // row[:gap]


def leading_well(saying, is_good):
    """Return the saying of the rows that lead each state to one that is good for it.

    `is_good` has for each state one boolean for each state to which a row may lead it.
    """
    found = Saying.full(saying.signs)
    for word, marks in zip(first_words(saying), is_good):
        found = found & (Saying(saying.signs, saying.table, marks) // word)
    return found


def keeping(saying):
    """Return the saying of the rows that fit anywhere into the saying."""
    states = list(range(saying.size))
    return leading_well(saying, [[is_followed(saying, state, other) for other in states] for state in states])


def neutral(saying):
    """Return the saying of the rows that never change whether a row is in the saying.

    The table is canonical, so they are the rows that lead each state to itself.
    """
    states = list(range(saying.size))
    return leading_well(saying, [[state == other for other in states] for state in states])


def lost_by(saying, group):
    """Return the first row, and its first gap, at which a join of the group leads out of the saying; or None."""
    check_row(check_group(group), saying.signs)
    row = first_row(saying & one_join(~saying, Lot.of(group)))
    if row is None:
        return None
    gaps = [gap for gap in range(len(row) + 1) if row[:gap] + group + row[gap:] not in saying]
    return row, gaps[0]


def widest_lot(saying, *, longest=2):
    """Return the lot of the rows that fit anywhere and do not come from those before them."""
    fits = keeping(saying)
    lot = Lot([])
    for row in rows_up_to(saying.signs, longest):
        # The empty row comes from each lot, so it is never added.
        if row in fits and not comes("", row, lot):
            lot = lot | Lot.of(row)
    return lot
