"""Sayings from tables in which a sign can lead a state to several states or to none.

A set of states is kept as a mask: an integer whose bit with the value 1 << state is set
for each state of the set.
"""

from stillgrows.sayings import Saying
from stillgrows.tables import sources_by_column

PIECE = 8
PIECE_MASK = 255


def mask_of(states):
    """Return the mask of a list of states, which may have duplicates."""
    mask = 0
    for state in states:
        mask = mask | (1 << state)
    return mask


def states_of(mask):
    """Return the ascending list of the states of a mask."""
    states = []
    while mask:
        lowest = mask & -mask
        states.append(lowest.bit_length() - 1)
        mask = mask ^ lowest
    return states


def marked_mask(saying):
    """Return the mask of the marked states."""
    return mask_of([state for state, mark in enumerate(saying.marks) if mark])


def columns_of(saying):
    """Return for each sign the list with the mask of the state behind it, for each state."""
    return [[1 << entry[column] for entry in saying.table] for column in range(len(saying.signs))]


def source_columns(saying):
    """Return for each sign the list with the mask of the states before each state."""
    return [[mask_of(states) for states in sources] for sources in sources_by_column(saying.table)]


def union_tables(masks):
    """Return, for each eight of the masks, the unions of all choices among them.

    The union of a choice stands at the index that is the mask of the choice, so that the
    masks of a whole set of states are united eight at once.
    """
    tables = []
    for low in range(0, len(masks), PIECE):
        unions = [0]
        for mask in masks[low:low + PIECE]:
            unions = unions + [union | mask for union in unions]
        tables.append(unions)
    return tables


def union_at(tables, states):
    """Return the union of the masks of the states, by the tables of these masks."""
    union = 0
    for unions in tables:
        union = union | unions[states & PIECE_MASK]
        states = states >> PIECE
    return union


def sets_led(starts, moves):
    """Return the sets of states to which rows lead the set `starts`, and the table of these sets.

    The sets are masks. `moves` has one list for each sign, with the mask of the states to
    which the sign can lead each state.
    """
    steps = [union_tables(masks) for masks in moves]
    sets = [starts]
    number = {starts: 0}
    table = []
    while len(table) < len(sets):
        states = sets[len(table)]
        entry = []
        for tables in steps:
            after = union_at(tables, states)
            if after not in number:
                number[after] = len(sets)
                sets.append(after)
            entry.append(number[after])
        table.append(entry)
    return sets, table


def saying_of_masks(signs, starts, moves, marks):
    """Return the saying of the rows that can lead a state of `starts` to a state of `marks`.

    `starts` and `marks` are masks, and `moves` is as for `sets_led`.
    """
    sets, table = sets_led(starts, moves)
    return Saying(signs, table, [states & marks != 0 for states in sets])


def led_into(moves, wanted):
    """Return the mask of the states that some sign can lead into the wanted states."""
    return mask_of([state for masks in moves for state, mask in enumerate(masks) if mask & wanted])


def first_way(signs, starts, moves, wanted):
    """Return the first row, in row order, that can lead a state of `starts` to a wanted one, or None.

    `starts` and `wanted` are masks, and `moves` is as for `sets_led`.
    """
    # The states that need so many signs, and not fewer, to be led to a wanted one.
    layers = [wanted]
    known = wanted
    while layers[-1] & starts == 0:
        before = led_into(moves, layers[-1]) & ~known
        if before == 0:
            return None
        known = known | before
        layers.append(before)
    steps = [union_tables(masks) for masks in moves]
    states = layers[-1] & starts
    row = ""
    for nearer in layers[-2::-1]:
        led = [(sign, union_at(tables, states) & nearer) for sign, tables in zip(signs, steps)]
        least = [(sign, behind) for sign, behind in led if behind]
        sign, states = least[0]
        row = row + sign
    return row
