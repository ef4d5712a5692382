"""Leavings: groups that stand in a row as one piece are taken out of it."""

from stillgrows.errors import NotThere
from stillgrows.growths import Growth


def stands_at(row, gap, group):
    """Tell whether the group stands at the gap; the gap may be any integer."""
    return gap >= 0 and row[gap:gap + len(group)] == group


def places(row, group):
    """Return the list of all gaps at which the group stands, in ascending order."""
    return [gap for gap in range(len(row)) if stands_at(row, gap, group)]


def leave(row, gap, group):
    """Return the row without the group that stands at the gap."""
    if not stands_at(row, gap, group):
        raise NotThere((gap, group))
    return row[:gap] + row[gap + len(group):]


def leavings(row, lot):
    """Return the list of all leavings of groups of the lot that the row allows."""
    return [(gap, group) for gap in range(len(row)) for group in lot if stands_at(row, gap, group)]


def residue(row, lot):
    """Return the growth that takes back the leavings, each the first one that its row allows."""
    left = []
    found = leavings(row, lot)
    while found:
        gap, group = found[0]
        left.append((gap, group))
        row = leave(row, gap, group)
        found = leavings(row, lot)
    return Growth(row, left[::-1])
