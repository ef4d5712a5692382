"""Closed tables: where the fillings of a gap lead the states of a saying."""

from stillgrows.errors import InvalidTable, WrongCount
from stillgrows.subsets import columns_of, mask_of, states_of
from stillgrows.walks import Walks
from stillgrows.words import check_row


def check_lot(lot, signs):
    """Raise UnknownSign with the first sign of the lot that is not in `signs`."""
    check_row("".join(lot.groups), signs)


def check_entries(saying, table):
    """Raise WrongCount or InvalidTable if the table is not one of states of the saying."""
    if len(table) != saying.size:
        raise WrongCount(len(table))
    for at, entry in enumerate(table):
        if not all([0 <= state < saying.size for state in entry]):
            raise InvalidTable(at)


def table_of_masks(masks):
    """Return the tuple of the ascending tuples of states."""
    return tuple([tuple(states_of(mask)) for mask in masks])


def gap_table(moves, groups, signs):
    """Return for each state the states to which fillings of the groups lead it.

    `moves` has for each state, and for each sign, the states to which the sign leads it.
    """
    check_row("".join(groups), signs)
    columns = [[mask_of(entry[column]) for entry in moves] for column in range(len(signs))]
    own = [1 << state for state in range(len(moves))]
    return table_of_masks(Walks(columns, own, groups, signs, 0).closed())


def closed_over(saying, lot, table):
    """Return the least closed table that contains the table."""
    check_lot(lot, saying.signs)
    check_entries(saying, table)
    first = [mask_of(entry) | (1 << state) for state, entry in enumerate(table)]
    return table_of_masks(Walks(columns_of(saying), first, lot.groups, saying.signs, 0).closed())


def is_closed(saying, lot, table):
    """Tell whether the table is closed."""
    least = closed_over(saying, lot, table)
    return least == table_of_masks([mask_of(entry) for entry in table])
