"""The first rows of sayings, and how many rows they have."""

from stillgrows.subsets import marked_mask, union_at, union_tables
from stillgrows.words import check_row


def first_words(saying):
    """Return for each state the first row, in row order, that leads state 0 to it.

    The states are numbered in the order in which they are first reached.
    """
    words = [""]
    for state, entry in enumerate(saying.table):
        for sign, to in zip(saying.signs, entry):
            if to == len(words):
                words.append(words[state] + sign)
    return words


def first_row(saying):
    """Return the first row of the saying in row order, or None if it has no row."""
    if saying.is_void:
        return None
    return first_words(saying)[saying.marks.index(True)]


def parting_row(first, second):
    """Return the first row that is in exactly one of the two sayings, or None."""
    return first_row(first ^ second)


def lead_in_tables(saying):
    """Return the tables that lead a set of states to the states from which one sign leads into it."""
    sources = [0] * saying.size
    for state, entry in enumerate(saying.table):
        for to in entry:
            sources[to] = sources[to] | (1 << state)
    return union_tables(sources)


def least_ending(saying, finishing, state, length):
    """Return the first row of exactly so many signs that leads the state to a mark, or None."""
    if not finishing[length] >> state & 1:
        return None
    row = ""
    for rest in range(length - 1, -1, -1):
        entry = saying.table[state]
        column = [finishing[rest] >> to & 1 for to in entry].index(1)
        row = row + saying.signs[column]
        state = entry[column]
    return row


def next_row(saying, finishing, row):
    """Return the next row of the saying with as many signs as `row`, or None."""
    states = [0]
    for sign in row:
        states.append(saying.step(states[-1], sign))
    for at in range(len(row) - 1, -1, -1):
        rest = len(row) - 1 - at
        for sign, to in zip(saying.signs, saying.table[states[at]]):
            if sign > row[at] and finishing[rest] >> to & 1:
                return row[:at] + sign + least_ending(saying, finishing, to, rest)
    return None


def first_rows(saying, many, *, after=None):
    """Return the list of the first `many` rows of the saying, in row order, behind `after` if it is a row."""
    row = None if after is None else check_row(after, saying.signs)
    length = 0 if after is None else len(after)
    tables = lead_in_tables(saying)
    # For each length the states that some row of this length leads to a mark.
    finishing = [marked_mask(saying)]
    rows = []
    barren = 0
    # Behind a row that is not the last one, a row comes that is longer by at most as many
    # signs as there are states.
    while len(rows) < many and barren <= saying.size:
        while len(finishing) <= length:
            finishing.append(union_at(tables, finishing[-1]))
        row = least_ending(saying, finishing, 0, length) if row is None else next_row(saying, finishing, row)
        if row is None:
            length += 1
            barren += 1
        else:
            rows.append(row)
            barren = 0
    return rows


def counts_by_length(saying, longest):
    """Return for each length from 0 to `longest` the number of rows of the saying that have it."""
    ways = [1 if mark else 0 for mark in saying.marks]
    counts = [ways[0]]
    for _ in range(longest):
        ways = [sum([ways[to] for to in entry]) for entry in saying.table]
        counts.append(ways[0])
    return counts


def count_rows(saying, length):
    """Return the number of rows of the saying that have exactly `length` signs."""
    return counts_by_length(saying, length)[-1]


def count_all(saying):
    """Return the number of rows of the saying, or None if it is endless."""
    longest = longest_length(saying)
    return None if longest is None else sum(counts_by_length(saying, longest))


def longest_length(saying):
    """Return the number of signs of the longest rows: -1 if there is no row, None if it is endless.

    If there are rows with as many signs as states or more, there is one with fewer than
    twice as many, and the saying is endless.
    """
    tables = lead_in_tables(saying)
    finishing = marked_mask(saying)
    longest = -1
    for length in range(2 * saying.size):
        if finishing & 1:
            longest = length
        finishing = union_at(tables, finishing)
    return longest if longest < saying.size else None
