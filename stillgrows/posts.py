"""Orders: which groups may join in which gap of a row."""

from stillgrows.closures import check_lot, gap_table
from stillgrows.costs import cheapest_through, cost_rows, costs_of, moves_along
from stillgrows.errors import GapOutOfRange, NotHolding, NotInLot, WrongCount
from stillgrows.lots import Lot
from stillgrows.spreads import moves_of, union_of
from stillgrows.subsets import columns_of
from stillgrows.verdicts import marked_states
from stillgrows.words import check_group, check_row


class Fillings:
    """The gap tables of a saying for several lots; orders often have one lot at many gaps."""

    def __init__(self, saying):
        self.signs = saying.signs
        self.moves = moves_of(saying)
        self.known = {}

    def led(self, groups, states):
        """Return the states to which fillings of the groups lead the states, as an ascending tuple."""
        if groups not in self.known:
            self.known[groups] = gap_table(self.moves, groups, self.signs)
        return union_of(self.known[groups], states)


def check_orders(saying, row, orders):
    """Raise what `ends_under` raises for the orders and the row."""
    if len(orders) != len(row) + 1:
        raise WrongCount(len(orders))
    for lot in orders:
        check_lot(lot, saying.signs)
    check_row(row, saying.signs)


def ends_under(saying, row, orders):
    """Return the states that are reached by the rows to which the row grows under the orders."""
    check_orders(saying, row, orders)
    fillings = Fillings(saying)
    states = fillings.led(orders[0].groups, (0,))
    for sign, lot in zip(row, orders[1:]):
        states = fillings.led(lot.groups, [saying.step(state, sign) for state in states])
    return states


def sure_under(saying, row, orders):
    """Tell whether every row to which the row grows under the orders is in the saying."""
    return all([saying.marks[state] for state in ends_under(saying, row, orders)])


def orders_after(orders, gap, group):
    """Return the orders for the row after the join of the group at the gap."""
    if not 0 <= gap < len(orders):
        raise GapOutOfRange(gap)
    if group not in orders[gap]:
        raise NotInLot(group)
    return list(orders[:gap]) + [orders[gap]] * (len(group) + 1) + list(orders[gap + 1:])


def good_states(saying, rest):
    """Return for each state whether the rest of a row leads it to a mark."""
    return [saying.marks[saying.state_after(rest, state)] for state in range(saying.size)]


def widest_orders(saying, row, lot):
    """Return the orders that are found by adding each group at each gap, if all rows then stay in the saying.

    The gaps behind the one that is visited are empty so far, so the rest of the row
    stands there as it is.
    """
    check_lot(lot, saying.signs)
    if row not in saying:
        raise NotHolding(row)
    fillings = Fillings(saying)
    states = (0,)
    orders = []
    for gap in range(len(row) + 1):
        if gap > 0:
            states = [saying.step(state, row[gap - 1]) for state in states]
        good = good_states(saying, row[gap:])
        groups = ()
        for group in lot:
            if all([good[state] for state in fillings.led(groups + (group,), states)]):
                groups = groups + (group,)
        orders.append(Lot(groups))
        states = fillings.led(groups, states)
    return orders


def gap_costs(saying, orders):
    """Return for each gap the walks and their table of costs, which equal lots share."""
    known = {}
    for lot in orders:
        if lot.groups not in known:
            walks = costs_of(saying, lot)
            known[lot.groups] = (walks, cost_rows(walks, saying.size))
    return [known[lot.groups] for lot in orders]


def growth_against(saying, row, orders, gap, group):
    """Return a growth with as few joins as possible out of the saying, if the group is added at the gap; or None."""
    check_orders(saying, row, orders)
    if not 0 <= gap <= len(row):
        raise GapOutOfRange(gap)
    check_row(check_group(group), saying.signs)
    wider = list(orders)
    wider[gap] = wider[gap] | Lot.of(group)
    moves = moves_along(columns_of(saying), saying.signs, row)
    return cheapest_through(moves, gap_costs(saying, wider), row, marked_states(saying, False), None)
