"""Sayings made from other sayings, row by row."""

from stillgrows.sayings import Saying, check_same_signs
from stillgrows.subsets import marked_mask, mask_of, saying_of_masks, source_columns
from stillgrows.tables import reached_states


def entering_masks(saying, begin, added):
    """Return for each state the mask with which it is entered, if its own bit is moved by `begin`.

    Where a row may end, `added` is entered too.
    """
    return [(1 << (begin + state)) | (added if mark else 0) for state, mark in enumerate(saying.marks)]


def followed(first, *rest):
    """Return the saying of the rows made of one row of each saying, one behind the other."""
    for other in rest:
        check_same_signs(first, other)
    sayings = [first] + list(rest)
    moves = [[] for _ in first.signs]
    many = 0
    # The mask with which the saying behind begins: so the last saying is gone through first.
    begin = 0
    for saying in sayings[::-1]:
        entered = entering_masks(saying, many, begin)
        moves = [masks + [entered[entry[column]] for entry in saying.table] for column, masks in enumerate(moves)]
        many = many + saying.size
        begin = entered[0]
    return saying_of_masks(first.signs, begin, moves, marked_mask(sayings[-1]))


def repeated(saying):
    """Return the saying of the rows made of any number of rows of the saying."""
    entered = entering_masks(saying, 0, 1)
    # One more state is the marked start, which goes on as state 0 does.
    start = 1 << saying.size
    entries = list(saying.table) + [saying.table[0]]
    moves = [[entered[entry[column]] for entry in entries] for column in range(len(saying.signs))]
    return saying_of_masks(saying.signs, start, moves, marked_mask(saying) | start)


def pair_table(first, second):
    """Return the table of all pairs of states, in which both go on; the pairs are numbered row by row."""
    width = second.size
    return [[p * width + q for p, q in zip(one, two)] for one in first.table for two in second.table]


def marked_pairs(first, second):
    """Return the mask of the pairs of which both states are marked."""
    pairs = [one and two for one in first.marks for two in second.marks]
    return mask_of([pair for pair, mark in enumerate(pairs) if mark])


def first_moves(first, second, column):
    """Return for each pair of states the pair in which only the first state has gone on."""
    width = second.size
    return [entry[column] * width + q for entry in first.table for q in range(width)]


def second_moves(first, second, column):
    """Return for each pair of states the pair in which only the second state has gone on."""
    return [p * second.size + entry[column] for p in range(first.size) for entry in second.table]


def shuffled(first, second):
    """Return the saying of the rows that are a shuffle of a row of each of the two sayings."""
    check_same_signs(first, second)
    moves = []
    for column in range(len(first.signs)):
        ones = first_moves(first, second, column)
        twos = second_moves(first, second, column)
        moves.append([mask_of(pair) for pair in zip(ones, twos)])
    return saying_of_masks(first.signs, 1, moves, marked_pairs(first, second))


def unshuffled(saying, other):
    """Return the saying of the rows of which some shuffle with a row of `other` is in `saying`."""
    check_same_signs(saying, other)
    both = pair_table(saying, other)
    # What the signs of a row of `other` can lead a pair to, before the next sign of the row.
    reached = [mask_of(reached_states(both, pair)) for pair in range(len(both))]
    moves = []
    for column in range(len(saying.signs)):
        moves.append([reached[pair] for pair in first_moves(saying, other, column)])
    return saying_of_masks(saying.signs, reached[0], moves, marked_pairs(saying, other))


def turned_saying(saying):
    """Return the saying of the rows of the saying read from their ends."""
    return saying_of_masks(saying.signs, marked_mask(saying), source_columns(saying), 1)


def holding(signs, row):
    """Return the saying of the rows in which the row stands as one piece."""
    full = Saying.full(signs)
    return followed(full, Saying.single(signs, row), full)


def scattering(signs, row):
    """Return the saying of the rows that are a shuffle of the row and some row."""
    return shuffled(Saying.single(signs, row), Saying.full(signs))
