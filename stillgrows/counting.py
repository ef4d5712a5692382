"""Rows that lead states of a saying in a circle."""

from math import lcm

from stillgrows.classes import Classes


def circle_lengths(behind):
    """Return the lengths of the circles in which a row leads states, those of one state too.

    `behind` has the state to which the row leads each state.
    """
    lengths = []
    seen = {}
    for first in range(len(behind)):
        path = []
        state = first
        while state not in seen:
            seen[state] = first
            path.append(state)
            state = behind[state]
        if path and seen[state] == first:
            lengths.append(len(path) - path.index(state))
    return lengths


def map_period(behind):
    """Return the period of a row that leads each state to the one in `behind`."""
    period_so_far = 1
    for length in circle_lengths(behind):
        period_so_far = lcm(period_so_far, length)
    return period_so_far


def counting_row(saying):
    """Return the first row, in row order, that leads states in a circle, or None."""
    classes = Classes(saying)
    for word, behind in zip(classes.words, classes):
        if map_period(behind) > 1:
            return word
    return None


def never_counts(saying):
    """Tell whether no row leads states of the saying in a circle."""
    return counting_row(saying) is None


def period(saying, row):
    """Return the period of the row."""
    return map_period([saying.state_after(row, state) for state in range(saying.size)])
