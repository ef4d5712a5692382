"""Stories: joins and leavings in any order, and the verdicts of rows from which groups may also leave."""

from stillgrows.closures import check_lot, gap_table
from stillgrows.costs import cheapest_through, cost_rows, moves_along
from stillgrows.errors import GapOutOfRange
from stillgrows.leaves import leave, leavings
from stillgrows.spreads import Spread
from stillgrows.subsets import mask_of, saying_of_masks
from stillgrows.verdicts import verdict_of
from stillgrows.walks import Walks, group_tree
from stillgrows.words import check_group, check_row


def after_step(row, step):
    """Return the row after the step, or raise what hinders it."""
    deed, gap, group = step
    check_group(group)
    if deed == "leave":
        return leave(row, gap, group)
    if not 0 <= gap <= len(row):
        raise GapOutOfRange(gap)
    return row[:gap] + group + row[gap:]


def play(row, story):
    """Return the row after the last step of the story."""
    for step in story:
        row = after_step(row, step)
    return row


def before_leavings(gap, group, left):
    """Return the gap at which a join behind the leavings is made before them, and the leavings behind it."""
    shifted = []
    for at, gone in left[::-1]:
        if gap <= at:
            shifted.append((at + len(group), gone))
        else:
            shifted.append((at, gone))
            gap = gap + len(gone)
    return gap, shifted[::-1]


def joins_first(row, story):
    """Return the story with the same rows at its ends in which all joins stand before all leavings."""
    play(row, story)
    joins = []
    left = []
    for deed, gap, group in story:
        if deed == "leave":
            left.append((gap, group))
        else:
            gap, left = before_leavings(gap, group, left)
            joins.append((gap, group))
    return [("join", gap, group) for gap, group in joins] + [("leave", gap, group) for gap, group in left]


class Readings:
    """How a row is read while at most `most` groups of a lot are left out of it, one after another.

    A place tells the state behind what is not left out, how many groups have begun to be
    left out, and the nodes in the tree of their beginnings that are reached in those that
    have not ended: the innermost one, which is left out first, stands last. The places
    are numbered like states; a sign can lead a place to several places or to none.
    """

    def __init__(self, saying, lot, most):
        self.branches, self.groups_at = group_tree(lot.groups, saying.signs)
        self.most = most
        places = [(0, 0, ())]
        numbers = {places[0]: 0}
        self.moves = []
        while len(self.moves) < len(places):
            place = places[len(self.moves)]
            entry = []
            for column, to in enumerate(saying.table[place[0]]):
                behind = self.places_behind(place, column, to)
                for other in behind:
                    if other not in numbers:
                        numbers[other] = len(places)
                        places.append(other)
                entry.append(tuple(sorted(set([int(numbers[other]) for other in behind]))))
            self.moves.append(entry)
        # The places at which a row may end, and whether the row that is left is in the saying.
        self.marks = {number: saying.marks[state] for number, (state, _, inside) in enumerate(places) if not inside}

    def places_behind(self, place, column, to):
        """Return the places to which the sign of the column leads the place; it leads the state to `to`."""
        state, begun, inside = place
        goes_on = [(inside[-1], inside[:-1], begun)] if inside else []
        begins = [(0, inside, begun + 1)] if begun < self.most else []
        found = [] if inside else [(to, begun, inside)]
        for node, around, many in goes_on + begins:
            for other, longer in self.branches[node]:
                if other == column and self.groups_at[longer]:
                    found.append((state, many, around))
                if other == column and self.branches[longer]:
                    found.append((state, many, around + (longer,)))
        return found

    def columns(self, signs):
        """Return for each sign the list with the mask of the places behind each place."""
        return [[mask_of(entry[column]) for entry in self.moves] for column in range(len(signs))]


def within_leavings(saying, lot, *, most=1):
    """Return the saying of the rows from which at most `most` leavings lead to a row of the saying."""
    check_lot(lot, saying.signs)
    readings = Readings(saying, lot, most)
    marks = mask_of([place for place, mark in readings.marks.items() if mark])
    return saying_of_masks(saying.signs, 1, readings.columns(saying.signs), marks)


def verdict_through(saying, lot, row, *, most=1):
    """Return the verdict on the row, if groups may join and at most `most` may leave.

    A story can be told with all joins first, so the row grows and then is read with
    groups left out.
    """
    check_lot(lot, saying.signs)
    readings = Readings(saying, lot, most)
    gap = gap_table(readings.moves, lot.groups, saying.signs)
    reached = Spread(saying.signs, (0,), readings.moves, (), gap).ends(row)
    return verdict_of(readings.marks, [place for place in reached if place in readings.marks])


def leavings_out(saying, lot, row, most):
    """Return the leavings, at most so many, by which the row leaves the saying."""
    lost = [within_leavings(~saying, lot, most=many) for many in range(most)]
    left = []
    while row in saying:
        reach = lost[most - len(left) - 1]
        found = [(gap, group) for gap, group in leavings(row, lot) if leave(row, gap, group) in reach]
        gap, group = found[0]
        left.append(("leave", gap, group))
        row = leave(row, gap, group)
    return left


def story_out(saying, lot, row, *, most=1):
    """Return an allowed story with as few joins as possible to a row that is not in the saying, or None."""
    check_lot(lot, saying.signs)
    check_row(row, saying.signs)
    readings = Readings(saying, lot, most)
    columns = readings.columns(saying.signs)
    many = len(readings.moves)
    walks = Walks(columns, [1 << place for place in range(many)], lot.groups, saying.signs, 1)
    gaps = [(walks, cost_rows(walks, many))] * (len(row) + 1)
    wanted = [place for place, mark in readings.marks.items() if not mark]
    growth = cheapest_through(moves_along(columns, saying.signs, row), gaps, row, wanted, None)
    if growth is None:
        return None
    joins = [("join", gap, group) for gap, group in growth.joins]
    return joins + leavings_out(saying, lot, growth.row, most)
