"""Stewards, who decide which joins are let into a row."""

from stillgrows.closures import check_lot
from stillgrows.errors import GapOutOfRange, NotInLot, RefusedJoin
from stillgrows.fates import Cores
from stillgrows.papers import paper_of
from stillgrows.sayings import Saying
from stillgrows.sures import may_saying, sure_saying
from stillgrows.verdicts import growth_out
from stillgrows.words import check_row


def after_join(row, gap, group):
    """Return the row after the join."""
    return row[:gap] + group + row[gap:]


class Steward:
    """A steward who lets in all joins of the groups of both lots."""

    KIND = "plain"

    def __init__(self, saying, free, held):
        check_lot(free, saying.signs)
        check_lot(held, saying.signs)
        self.saying = saying
        self.free = free
        self.held = held
        self.kept = Saying.full(saying.signs)

    def lets(self, row, gap, group):
        """Tell whether the steward lets the join into the row."""
        check_row(row, self.saying.signs)
        if not 0 <= gap <= len(row):
            raise GapOutOfRange(gap)
        if group not in self.free and group not in self.held:
            raise NotInLot(group)
        return group in self.free or after_join(row, gap, group) in self.kept

    def let_in(self, row, gap, group):
        """Return the row after the join, or raise RefusedJoin."""
        if not self.lets(row, gap, group):
            raise RefusedJoin((gap, group))
        return after_join(row, gap, group)

    def choices(self, row):
        """Yield all joins that the steward lets into the row, gap by gap."""
        check_row(row, self.saying.signs)
        groups = (self.free | self.held).groups
        for gap in range(len(row) + 1):
            for group in groups:
                if self.lets(row, gap, group):
                    yield gap, group

    def why(self, row, gap, group):
        """Return None: this steward refuses nothing."""
        self.lets(row, gap, group)
        return None


class SafeSteward(Steward):
    """A steward who lets in what keeps the row sure, whatever free groups join."""

    KIND = "safe"

    def __init__(self, saying, free, held):
        super().__init__(saying, free, held)
        self.kept = sure_saying(saying, free)

    def why(self, row, gap, group):
        """Return None if the join is let in, otherwise a growth by free groups out of the saying."""
        if self.lets(row, gap, group):
            return None
        return growth_out(self.saying, self.free, after_join(row, gap, group))


class HopefulSteward(Steward):
    """A steward who lets in what leaves a way to the saying, if all groups may join."""

    KIND = "hopeful"

    def __init__(self, saying, free, held):
        super().__init__(saying, free, held)
        self.kept = may_saying(saying, free | held)

    def why(self, row, gap, group):
        """Return None if the join is let in, otherwise the least paper that the row after it is never in the saying."""
        if self.lets(row, gap, group):
            return None
        return paper_of(self.saying, self.free | self.held, after_join(row, gap, group))


class SteadySteward(HopefulSteward):
    """A steward who lets in what leaves a way to the saying, whatever free groups join."""

    KIND = "steady"

    def __init__(self, saying, free, held):
        super().__init__(saying, free, held)
        self.hope = self.kept
        # The rows to which free groups lead are all in the hope if the core, which all of
        # them keep among their ends, has a marked state.
        self.kept = ~Cores(saying, free | held, free).rows_with("no")

    def why(self, row, gap, group):
        """Return None if the join is let in, otherwise a growth by free groups out of the hope."""
        if self.lets(row, gap, group):
            return None
        return growth_out(self.hope, self.free, after_join(row, gap, group))
