"""How many joins lead from one state to another one, and growths with as few as possible."""

from stillgrows.closures import check_lot
from stillgrows.nests import read_bracketed
from stillgrows.subsets import columns_of, states_of
from stillgrows.walks import Walks
from stillgrows.words import check_row


def costs_of(saying, lot):
    """Return the walks that tell the costs between the states."""
    check_lot(lot, saying.signs)
    own = [1 << state for state in range(saying.size)]
    return Walks(columns_of(saying), own, lot.groups, saying.signs, 1)


def cost_rows(walks, size):
    """Return for each of so many states the list of the costs to each state, None where there is none."""
    return [[walks.cost(start, last) for last in range(size)] for start in range(size)]


def cost_table(saying, lot):
    """Return for each state the tuple of the costs to each state, None where there is none."""
    return tuple([tuple(row) for row in cost_rows(costs_of(saying, lot), saying.size)])


def gap_growth(saying, lot, start, last):
    """Return a growth to a filling that leads `start` to `last` with as few joins as possible, or None."""
    walks = costs_of(saying, lot)
    if walks.cost(start, last) is None:
        return None
    return read_bracketed(walks.filling_text(start, last))


def gap_filled(costs, spent):
    """Return with how many joins each state is reached when a gap is filled.

    `spent` has the joins so far for each state that is reached before the gap. For each
    state behind it a tuple is returned: the joins, and the state before the gap.
    """
    best = {}
    for before, joins in spent.items():
        for behind, cost in enumerate(costs[before]):
            if cost is not None and (behind not in best or joins + cost < best[behind][0]):
                best[behind] = (joins + cost, before)
    return best


def read_on(masks, reached):
    """Return with how many joins a sign leads to each state, and the state before the sign.

    `masks` has for each state the mask of the states to which the sign leads it.
    """
    best = {}
    for before, (joins, _) in reached.items():
        for behind in states_of(masks[before]):
            if behind not in best or joins < best[behind][0]:
                best[behind] = (joins, before)
    return best


def joins_alone(reached):
    """Return the numbers of joins of the states that are reached."""
    return {state: joins for state, (joins, _) in reached.items()}


def text_back(gaps, layers, row, state):
    """Return the bracketed text of a growth of the row that leads to the state of the last layer."""
    text = ""
    for at in range(len(layers) - 1, -1, -1):
        before = layers[at][state][1]
        # Gaps and signs take turns: behind the sign with the index k stands the gap k + 1.
        piece = gaps[at // 2][0].filling_text(before, state) if at & 1 == 0 else row[at // 2]
        text = piece + text
        state = before
    return text


def cheapest_through(moves, gaps, row, wanted, most):
    """Return a growth with as few joins as possible from the row to one that can lead state 0 to a wanted state.

    `moves` has for each sign of the row the mask of the states to which it leads each
    state, and `gaps` for each gap the walks and their table of costs. Return None if
    there is no such growth, or if `most` is an integer and each one has more joins.
    """
    layers = [gap_filled(gaps[0][1], {0: 0})]
    for masks, (_, costs) in zip(moves, gaps[1:]):
        layers.append(read_on(masks, layers[-1]))
        layers.append(gap_filled(costs, joins_alone(layers[-1])))
    joins = joins_alone(layers[-1])
    found = [state for state in wanted if state in joins]
    if not found:
        return None
    fewest = min([int(joins[state]) for state in found])
    # A growth can be very long, so it is written only if it is wanted.
    if most is not None and fewest > most:
        return None
    nearest = [state for state in found if joins[state] == fewest]
    return read_bracketed(text_back(gaps, layers, row, nearest[0]))


def moves_along(columns, signs, row):
    """Return for each sign of the row its masks, which the columns have for each sign of the alphabet."""
    by_sign = {sign: masks for sign, masks in zip(signs, columns)}
    return [by_sign[sign] for sign in row]


def cheapest_growth(saying, lot, row, wanted, *, most=None):
    """Return a growth with as few joins as possible from the row to one that leads state 0 to a wanted state.

    Return None if there is none, or none with at most `most` joins.
    """
    walks = costs_of(saying, lot)
    moves = moves_along(columns_of(saying), saying.signs, check_row(row, saying.signs))
    gap = (walks, cost_rows(walks, saying.size))
    return cheapest_through(moves, [gap] * (len(row) + 1), row, wanted, most)
