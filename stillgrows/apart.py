"""The joins of a growth, gap by gap of the start row, exchanged, and in order."""

from stillgrows.errors import DoNotMeet, WrongCount
from stillgrows.growths import Growth


def gap_words(growth):
    """Return the list of the words of the gaps of the start row."""
    words = [""]
    for sign, (owner, _) in zip(growth.row, growth.owners()):
        if owner == 0:
            words.append("")
        else:
            words[-1] = words[-1] + sign
    return words


def gap_growths(growth):
    """Return the list of the growths of the gaps of the start row."""
    made = [[] for _ in range(len(growth.start) + 1)]
    # One entry for each sign of the row so far: whether it is of the start row.
    starts = [True] * len(growth.start)
    for gap, group in growth.joins:
        k = starts[:gap].count(True)
        behind = starts[:gap][::-1]
        near = behind.index(True) if k else gap
        made[k].append((near, group))
        starts[gap:gap] = [False] * len(group)
    return [Growth("", joins) for joins in made]


def woven(start, growths):
    """Return the growth from the row `start` whose growths of the gaps are the given ones."""
    if len(growths) != len(start) + 1:
        raise WrongCount(len(growths))
    joins = []
    begin = 0
    for growth in growths:
        if growth.start != "":
            raise DoNotMeet(("", growth.start))
        joins.extend([(begin + gap, group) for gap, group in growth.joins])
        begin = begin + len(growth.row) + 1
    return Growth(start, joins)


def exchanged(first, second):
    """Return the two joins in the other order, or None if the second one stands inside the first one."""
    g, u = first
    h, v = second
    if h <= g:
        return (h, v), (g + len(v), u)
    if h >= g + len(u):
        return (h - len(u), v), (g, u)
    return None


def in_order(growth):
    """Return the growth in order that makes the same joins."""
    joins = []
    for at, (owner, place) in enumerate(growth.owners()):
        if owner > 0 and place == 1:
            joins.append((at, growth.joins[owner - 1][1]))
    return Growth(growth.start, joins)
