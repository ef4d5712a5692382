"""Fates: what rows can still be led to, for ever.

A set of states is a mask here.
"""

from stillgrows.closures import check_lot
from stillgrows.costs import cheapest_growth
from stillgrows.sayings import Saying
from stillgrows.spreads import plain_spread
from stillgrows.subsets import columns_of, marked_mask, mask_of, states_of, union_at, union_tables
from stillgrows.sures import never_saying, sure_saying
from stillgrows.verdicts import marked_states
from stillgrows.words import check_row


class Cores:
    """The cores of the rows of a saying: of the ends by `lot` of all rows to which groups of `some` lead the least.

    What fills one gap of a row does not depend on the other gaps. So it can be as good
    as possible in each of them, which leads each set of states to the least set. The
    groups of `some` are in the lot.
    """

    def __init__(self, saying, lot, some):
        spread = plain_spread(saying, lot)
        self.signs = saying.signs
        self.marked = marked_mask(saying)
        self.steps = [union_tables(masks) for masks in columns_of(saying)]
        # For each set of states the least set of ends that a filling leads it to.
        closures = union_tables([mask_of(entry) for entry in spread.gap])
        self.least = [union_at(closures, states) for states in range(1 << saying.size)]
        groups = [[saying.signs.index(sign) for sign in group] for group in some.groups]
        while self.lessen(groups):
            pass

    def lessen(self, groups):
        """Let each group join where it leads a set to a smaller one; tell whether one has become smaller."""
        lessened = False
        for states, before in enumerate(list(self.least)):
            ends = before
            for columns in groups:
                for column in columns:
                    ends = self.after(ends, column)
            self.least[states] = ends
            lessened = lessened or ends != before
        return lessened

    def first(self):
        """Return the core of the empty row."""
        return self.least[1]

    def after(self, states, column):
        """Return the core of a row with one more sign, from the core before it."""
        return self.least[union_at(self.steps[column], states)]

    def core(self, row):
        """Return the core of the row."""
        states = self.first()
        for sign in row:
            states = self.after(states, self.signs.index(sign))
        return states

    def fate(self, states):
        """Return the fate of the rows with this core."""
        if states & self.marked == states:
            return "yes"
        return "no" if states & self.marked == 0 else "free"

    def rows_with(self, wanted):
        """Return the saying of the rows with the fate."""
        cores = [self.first()]
        numbers = {cores[0]: 0}
        table = []
        while len(table) < len(cores):
            states = cores[len(table)]
            entry = []
            for column in range(len(self.signs)):
                behind = self.after(states, column)
                if behind not in numbers:
                    numbers[behind] = len(cores)
                    cores.append(behind)
                entry.append(numbers[behind])
            table.append(entry)
        return Saying(self.signs, table, [self.fate(states) == wanted for states in cores])


def yes_saying(saying, lot):
    """Return the saying of the rows with the fate "yes"."""
    return Cores(saying, lot, lot).rows_with("yes")


def no_saying(saying, lot):
    """Return the saying of the rows with the fate "no"."""
    return Cores(saying, lot, lot).rows_with("no")


def fate(saying, lot, row):
    """Return the fate of the row: "yes", "no" or "free"."""
    cores = Cores(saying, lot, lot)
    return cores.fate(cores.core(check_row(row, saying.signs)))


def core(saying, lot, row):
    """Return the core of the row, an ascending tuple of states."""
    cores = Cores(saying, lot, lot)
    return tuple(states_of(cores.core(check_row(row, saying.signs))))


def settling_growth(saying, lot, row):
    """Return a growth with as few joins as possible to a row that is sure or never, or None."""
    settled = sure_saying(saying, lot) | never_saying(saying, lot)
    return cheapest_growth(settled, lot, row, marked_states(settled, True))


def is_join_blind(saying, lot):
    """Tell whether no join and no leaving of a group changes whether a row is in the saying.

    The table is canonical, so this is the case if each group leads each state to itself.
    """
    check_lot(lot, saying.signs)
    return all([saying.state_after(group, state) == state for group in lot.groups for state in range(saying.size)])
