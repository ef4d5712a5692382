"""Paces: signs that may be doubled, and where rows that grow at a pace lead the states."""

from stillgrows.closures import gap_table
from stillgrows.errors import WrongCount
from stillgrows.spreads import Spread
from stillgrows.words import check_row


def squeezed(row, paced):
    """Return the row in which each block of equal paced signs is cut to one sign."""
    signs = [sign for at, sign in enumerate(row) if at == 0 or sign != row[at - 1] or sign not in paced]
    return "".join(signs)


def same_pace(row, other, paced):
    """Tell whether doublings of paced signs can turn both rows into one row."""
    return squeezed(row, paced) == squeezed(other, paced)


def stretched(row, times, *, only=None):
    """Return the row in which each sign stands as often as `times` says, or once if it is not in `only`."""
    if len(times) != len(row):
        raise WrongCount(len(times))
    return "".join([sign * many if only is None or sign in only else sign for sign, many in zip(row, times)])


def led_again(column, gap, states):
    """Return the states, and those to which fillings with the sign behind them lead them on.

    `column` has the state behind the sign for each state.
    """
    found = list(states)
    known = {state: True for state in found}
    at = 0
    while at < len(found):
        for before in gap[found[at]]:
            behind = column[before]
            if behind not in known:
                known[behind] = True
                found.append(behind)
        at += 1
    return tuple(sorted([int(state) for state in found]))


def paced_moves(saying, paced, gap):
    """Return for each state and sign the states to which the sign, doubled or not, leads the state.

    `gap` has for each state the states to which what joins between two signs leads it.
    """
    columns = []
    for number, sign in enumerate(saying.signs):
        column = [entry[number] for entry in saying.table]
        columns.append([led_again(column, gap, [to]) if sign in paced else (to,) for to in column])
    return list(zip(*columns))


def paced_spread(saying, lot, paced):
    """Return the spread of all rows to which a row grows at the pace by the lot."""
    check_row(paced, saying.signs)
    gap = tuple([(state,) for state in range(saying.size)])
    moves = paced_moves(saying, paced, gap)
    more = gap_table(moves, lot.groups, saying.signs)
    # What joins between two signs may be doubled, too, and so lead on to more states.
    while more != gap:
        gap = more
        moves = paced_moves(saying, paced, gap)
        more = gap_table(moves, lot.groups, saying.signs)
    return Spread(saying.signs, (0,), moves, saying.marks, gap)
