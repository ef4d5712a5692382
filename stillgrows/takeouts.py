"""Rows from which leavings or joins lead to a row of a saying."""

from stillgrows.closures import check_lot
from stillgrows.sayings import Saying
from stillgrows.subsets import (columns_of, marked_mask, mask_of, saying_of_masks, source_columns, union_at,
                                union_tables)
from stillgrows.walks import Walks, group_tree

# There is one completed set for each set of states: too many for greater sayings.
MOST_COMPLETED = 16


def lost_sets(saying):
    """Return for each row the mask of all states that it leads to no mark, each mask once."""
    steps = [union_tables(masks) for masks in source_columns(saying)]
    found = [((1 << saying.size) - 1) ^ marked_mask(saying)]
    known = {found[0]: True}
    at = 0
    while at < len(found):
        for tables in steps:
            before = union_at(tables, found[at])
            if before not in known:
                known[before] = True
                found.append(before)
        at += 1
    return found


def completed_sets(saying):
    """Return for each set of states the greatest set from which the same rows lead to a mark.

    No state of a set is led to a mark by a row if the set is contained in the lost set of
    the row. So the greatest set has the states that are in all lost sets around the set.
    """
    many = 1 << saying.size
    completed = [many - 1] * many
    for states in lost_sets(saying):
        completed[states] = states
    for state in range(saying.size):
        bit = 1 << state
        for states in range(many):
            if states & bit == 0:
                completed[states] = completed[states] & completed[states | bit]
    return completed


def saying_of_fronts(saying, entries, first):
    """Return the saying of the rows that lead some row of `saying` on, which a front begins.

    A front reads the row as one state; `entries` has for each front and each sign the
    front behind it and a mask of states of the saying. At each sign the states so far go
    on, and those of the mask are added. `first` is the mask for the empty row.
    """
    steps = [union_tables(masks) for masks in columns_of(saying)]
    marked = marked_mask(saying)
    # Sets from which the same rows lead to a mark count as one, which keeps the pairs few.
    completed = completed_sets(saying) if saying.size <= MOST_COMPLETED else None
    pairs = [(0, first)]
    numbers = {pairs[0]: 0}
    table = []
    while len(table) < len(pairs):
        front, states = pairs[len(table)]
        entry = []
        for tables, (behind, added) in zip(steps, entries[front]):
            after = union_at(tables, states) | added
            pair = (behind, after if completed is None else completed[after])
            if pair not in numbers:
                numbers[pair] = len(pairs)
                pairs.append(pair)
            entry.append(numbers[pair])
        table.append(entry)
    return Saying(saying.signs, table, [states & marked != 0 for _, states in pairs])


def next_begun(begun, column, branches, groups_at):
    """Return the groups begun in a row when one more sign is read, and the mask of those it ends.

    A begun group is a tuple of its node in the tree of beginnings and the state before it.
    """
    longer = []
    ended = []
    for node, state in begun:
        for other, behind in branches[node]:
            if other == column:
                longer.append((behind, state))
                if groups_at[behind]:
                    ended.append(state)
    return [pair for pair in longer if branches[pair[0]]], mask_of(ended)


def leaving_fronts(saying, lot):
    """Return the fronts that read a row and, wherever a group of the lot ends, leave it out.

    A front is the state behind the row so far and the groups begun in it.
    """
    branches, groups_at = group_tree(lot.groups, saying.signs)
    fronts = [(0, ((0, 0),))]
    numbers = {fronts[0]: 0}
    entries = []
    while len(entries) < len(fronts):
        state, begun = fronts[len(entries)]
        entry = []
        for column, to in enumerate(saying.table[state]):
            longer, ended = next_begun(begun, column, branches, groups_at)
            front = (to, tuple(longer + [(0, to)]))
            if front not in numbers:
                numbers[front] = len(fronts)
                fronts.append(front)
            entry.append((numbers[front], ended))
        entries.append(entry)
    return entries


def one_leaving(saying, lot):
    """Return the saying of the rows from which some one leaving leads to a row of the saying."""
    check_lot(lot, saying.signs)
    return saying_of_fronts(saying, leaving_fronts(saying, lot), 0)


def one_join(saying, lot):
    """Return the saying of the rows from which some one join leads to a row of the saying."""
    check_lot(lot, saying.signs)
    # A group may join behind the row so far: the front is the state there.
    joined = [mask_of([saying.state_after(group, state) for group in lot.groups]) for state in range(saying.size)]
    entries = [[(to, joined[to]) for to in entry] for entry in saying.table]
    return saying_of_fronts(saying, entries, joined[0])


def within_joins(saying, lot, *, most=1):
    """Return the saying of the rows from which at most `most` joins lead to a row of the saying."""
    check_lot(lot, saying.signs)
    own = [1 << state for state in range(saying.size)]
    walks = Walks(columns_of(saying), own, lot.groups, saying.signs, 1)
    # The bits of the states stand once for each number of joins so far.
    filled = [[0] * saying.size for _ in range(most + 1)]
    for state in range(saying.size):
        for joins, states in walks.filled(state).items():
            for before in range(most + 1 - joins):
                at = filled[before]
                at[state] = at[state] | (states << ((before + joins) * saying.size))
    moves = [[at[entry[column]] for at in filled for entry in saying.table] for column in range(len(saying.signs))]
    marks = mask_of([before * saying.size + state for before in range(most + 1)
                     for state in range(saying.size) if saying.marks[state]])
    return saying_of_masks(saying.signs, filled[0][0], moves, marks)
