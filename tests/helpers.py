"""What several tests need: a check of errors, and plain searches that take their time."""

import random
import unittest

from stillgrows.growths import Growth
from stillgrows.lots import Lot
from stillgrows.sayings import Saying


class GrowsCase(unittest.TestCase):
    def refuses(self, error, value, call, *args, **more):
        """Check that the call raises exactly this error with this value."""
        with self.assertRaises(error) as caught:
            call(*args, **more)
        self.assertIs(type(caught.exception), error)
        self.assertEqual(caught.exception.value, value)
        self.assertIs(type(caught.exception.value), type(value))

    def same(self, found, wanted):
        """Check value and class, so that 1 does not pass for True."""
        self.assertIs(type(found), type(wanted))
        self.assertEqual(found, wanted)


def all_rows(signs, longest):
    """All rows over the signs with at most `longest` signs, in row order."""
    rows = [""]
    level = [""]
    for _ in range(longest):
        level = [row + sign for row in level for sign in signs]
        rows += level
    return rows


def rows_in(saying, longest):
    """The rows of the saying with at most `longest` signs, in row order."""
    return [row for row in all_rows(saying.signs, longest) if row in saying]


def random_table(rng, signs, size):
    table = [[rng.randrange(size) for _ in signs] for _ in range(size)]
    return table, [rng.random() < 0.5 for _ in range(size)]


def random_saying(rng, signs, size):
    return Saying(signs, *random_table(rng, signs, size))


def read_by(table, marks, signs, row):
    """Whether a table leads the row to a mark; reads any table sign by sign."""
    state = 0
    for sign in row:
        state = table[state][signs.index(sign)]
    return marks[state]


def random_joins(rng, start, many, signs="abc", longest=3):
    """A list of joins that can be made from the start row."""
    joins = []
    length = len(start)
    for _ in range(many):
        group = "".join(rng.choice(signs) for _ in range(rng.randint(1, longest)))
        joins.append((rng.randint(0, length), group))
        length += len(group)
    return joins


def some_growths(seed):
    """Random growths, among them growths without joins and from the empty row."""
    rng = seeded(seed)
    for start in ("", "a", "ab", "abca"):
        for many in (0, 1, 2, 3, 6, 20):
            for _ in range(6):
                yield Growth(start, random_joins(rng, start, many))


def random_lot(rng, signs, many, longest):
    """A lot of at most so many groups."""
    return Lot(["".join(rng.choice(signs) for _ in range(rng.randint(1, longest))) for _ in range(many)])


def permuting(rng, signs, size):
    """A saying each sign of which permutes the states; the first one leads them in one circle."""
    columns = [[(state + 1) % size for state in range(size)]]
    columns += [rng.sample(range(size), size) for _ in signs[1:]]
    return Saying(signs, list(zip(*columns)), [state == size - 1 for state in range(size)])


def joined(row, groups):
    """The rows after one join."""
    return {row[:gap] + group + row[gap:] for gap in range(len(row) + 1) for group in groups}


def without_one(row, groups):
    """The rows after one leaving."""
    return {row[:gap] + row[gap + len(group):] for group in groups for gap in range(len(row))
            if row.startswith(group, gap)}


def grown(row, groups, longest):
    """All rows of at most so many signs to which the row grows, in row order."""
    found = {row}
    level = [row]
    while level:
        level = [other for other in {after for before in level for after in joined(before, groups)}
                 if len(other) <= longest and other not in found]
        found.update(level)
    return sorted(found, key=lambda other: (len(other), other))


def doubled(row, paced):
    """The rows after one doubling of a paced sign."""
    return {row[:at + 1] + row[at:] for at, sign in enumerate(row) if sign in paced}


def grown_at_pace(row, groups, paced, longest):
    """All rows of at most so many signs to which the row grows at the pace, with the fewest joins of each."""
    found = {row: 0}
    level = [row]
    while level:
        after = {other: found[before] + 1 for before in level
                 for other in joined(before, groups) | doubled(before, paced)}
        level = [other for other in after if len(other) <= longest and other not in found]
        found.update({other: after[other] for other in level})
    return found


def plain_closure(moves, groups, signs, table):
    """The least closed table that contains the table, found in rounds over all states and groups."""
    entries = [set(entry) | {state} for state, entry in enumerate(table)]
    changed = True
    while changed:
        changed = False
        for state in range(len(entries)):
            for group in groups:
                ends = set(entries[state])
                for sign in group:
                    behind = {to for end in ends for to in moves[end][signs.index(sign)]}
                    ends = {to for end in behind for to in entries[end]}
                if not ends <= entries[state]:
                    entries[state] |= ends
                    changed = True
    return tuple(tuple(sorted(entry)) for entry in entries)


def moves_of(saying):
    return [[(to,) for to in entry] for entry in saying.table]


def seeded(seed):
    return random.Random(seed)


def within_steps(row, steps, many):
    """The rows after at most so many steps; `steps` gives the rows after one step of a row."""
    found = {row}
    level = {row}
    for _ in range(many):
        level = {other for before in level for other in steps(before)} - found
        found |= level
    return found
