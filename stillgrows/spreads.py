"""Spreads: how sets of states go on while a row is read and grows."""

from stillgrows.closures import gap_table
from stillgrows.subsets import mask_of
from stillgrows.words import check_row


def frozen(worth):
    """Return the value with all lists in it turned into tuples."""
    if isinstance(worth, (list, tuple)):
        return tuple([frozen(part) for part in worth])
    return worth


def union_of(entries, states):
    """Return the states of the entries at these states, as an ascending tuple."""
    return tuple(sorted(set([int(to) for state in states for to in entries[state]])))


class Spread:
    """Where rows and all that they grow to lead the states of a table."""

    def __init__(self, signs, starts, moves, marks, gap):
        self.signs = signs
        self.starts = frozen(starts)
        self.moves = frozen(moves)
        self.marks = frozen(marks)
        self.gap = frozen(gap)

    def first(self):
        """Return the ends of the empty row."""
        return union_of(self.gap, self.starts)

    def after(self, states, sign):
        """Return the ends behind the sign, which follows a row with these ends."""
        check_row(sign, self.signs)
        column = self.signs.index(sign)
        return union_of(self.gap, union_of([entry[column] for entry in self.moves], states))

    def ends(self, row):
        """Return the ends of the row."""
        states = self.first()
        for sign in row:
            states = self.after(states, sign)
        return states

    def ends_along(self, row):
        """Yield the ends of the empty row, of the first sign of the row, and so on."""
        states = self.first()
        yield states
        for sign in row:
            states = self.after(states, sign)
            yield states

    def __eq__(self, other):
        return (isinstance(other, Spread) and self.signs == other.signs and self.starts == other.starts
                and self.moves == other.moves and self.marks == other.marks and self.gap == other.gap)


def ending_masks(spread):
    """Return the mask of the ends of the empty row, and for each sign the masks of the ends behind each state."""
    columns = []
    for column in range(len(spread.signs)):
        columns.append([mask_of(union_of(spread.gap, entry[column])) for entry in spread.moves])
    return mask_of(spread.first()), columns


def moves_of(saying):
    """Return for each state and each sign the tuple of the one state behind it."""
    return [[(to,) for to in entry] for entry in saying.table]


def plain_spread(saying, lot):
    """Return the spread of all rows to which a row grows by the lot."""
    moves = moves_of(saying)
    return Spread(saying.signs, (0,), moves, saying.marks, gap_table(moves, lot.groups, saying.signs))
