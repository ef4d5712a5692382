"""Sayings that are blind to a pace, and those that are nearest to a saying."""

from stillgrows.doublings import doublings
from stillgrows.subsets import first_way, mask_of, saying_of_masks
from stillgrows.words import check_row


def blind_signs(saying):
    """Return the string of the signs to whose pace alone the saying is blind.

    The table is canonical, so a sign that is doubled must lead each state where the sign does.
    """
    signs = [sign for sign in saying.signs
             if all([saying.state_after(sign + sign, state) == saying.step(state, sign)
                     for state in range(saying.size)])]
    return "".join(signs)


def is_pace_blind(saying, paced):
    """Tell whether the saying is blind to the pace."""
    check_row(paced, saying.signs)
    blind = blind_signs(saying)
    return all([sign in blind for sign in paced])


def first_changed(saying, paced):
    """Return the first row in which some doubling of a paced sign changes whether it is in the saying, or None.

    A pair tells where a row leads state 0, and where it does so with a doubling. Both
    states are one as long as nothing is doubled.
    """
    size = saying.size
    moves = []
    for column, sign in enumerate(saying.signs):
        masks = [1 << (one[column] * size + two[column]) for one in saying.table for two in saying.table]
        for state, entry in enumerate(saying.table):
            if sign in paced:
                pair = entry[column] * size + saying.step(entry[column], sign)
                masks[state * size + state] = masks[state * size + state] | (1 << pair)
        moves.append(masks)
    wanted = mask_of([p * size + q for p in range(size) for q in range(size) if saying.marks[p] != saying.marks[q]])
    return first_way(saying.signs, 1, moves, wanted)


def pace_example(saying, paced):
    """Return the first row that a doubling changes for the saying, and the first row that arises so; or None."""
    check_row(paced, saying.signs)
    row = first_changed(saying, paced)
    if row is None:
        return None
    doubled = [row[:gap] + sign + row[gap:] for gap, sign in doublings(row, paced)]
    changed = [other for other in doubled if (other in saying) != (row in saying)]
    return row, min([str(other) for other in changed])


def runs_of(column, state):
    """Return the states to which one sign leads the state if it stands any number of times, at least once."""
    found = []
    while column[state] not in found:
        state = column[state]
        found.append(state)
    return found


def blurred(saying, paced):
    """Return the saying of the rows that have the same pace as some row of the saying.

    At the first sign of a block of paced signs the states go on by a block of any length;
    at its other signs they stay. So it is kept which paced sign was read last.
    """
    check_row(paced, saying.signs)
    size = saying.size
    last_signs = [""] + [sign for sign in saying.signs if sign in paced]
    moves = []
    for number, sign in enumerate(saying.signs):
        column = [entry[number] for entry in saying.table]
        begin = last_signs.index(sign) * size if sign in last_signs else 0
        masks = []
        for last in last_signs:
            for state, to in enumerate(column):
                ends = [to] if begin == 0 else [state] if last == sign else runs_of(column, state)
                masks.append(mask_of([begin + end for end in ends]))
        moves.append(masks)
    marks = mask_of([at for at, mark in enumerate(list(saying.marks) * len(last_signs)) if mark])
    return saying_of_masks(saying.signs, 1, moves, marks)


def sharpened(saying, paced):
    """Return the saying of the rows of which every row of the same pace is in the saying."""
    return ~blurred(~saying, paced)
