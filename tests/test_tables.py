import unittest

from helpers import all_rows, random_table, read_by, seeded
from stillgrows import tables


def plain_blocks(table, marks):
    """Blocks of states that can be merged, found in rounds over all states."""
    blocks = [int(mark) for mark in marks]
    for _ in table:
        forms = [(blocks[state], tuple(blocks[to] for to in entry)) for state, entry in enumerate(table)]
        numbers = {form: at for at, form in enumerate(dict.fromkeys(forms))}
        blocks = [numbers[form] for form in forms]
    return blocks


def by_first(blocks):
    """The blocks, numbered in the order of their first states."""
    numbers = {block: at for at, block in enumerate(dict.fromkeys(blocks))}
    return [numbers[block] for block in blocks]


class TestTables(unittest.TestCase):
    def test_reached_states_breadth_first(self):
        table = [[3, 2], [0, 0], [2, 4], [3, 2], [0, 4]]
        self.assertEqual(tables.reached_states(table, 0), [0, 3, 2, 4])
        self.assertEqual(tables.reached_states(table, 2), [2, 4, 0, 3])

    def test_grouped(self):
        self.assertEqual(tables.grouped([2, 0, 2, 2, 0], 4), [[1, 4], [], [0, 2, 3], []])
        self.assertEqual(tables.grouped([], 2), [[], []])
        self.assertEqual(tables.grouped([], 0), [])

    def test_sources(self):
        self.assertEqual(tables.sources_by_column([[1, 0], [1, 2], [0, 2]]), [[[2], [0, 1], []], [[0], [], [1, 2]]])

    def test_blocks_hold_the_states_that_can_be_merged(self):
        rng = seeded(3)
        for signs in ("a", "ab", "abcd"):
            for size in range(1, 31):
                for _ in range(20):
                    table, marks = random_table(rng, signs, size)
                    if rng.random() < 0.7:
                        # Few marks part the states slowly.
                        marks = [rng.random() < 0.1 for _ in range(size)]
                    wanted = by_first(plain_blocks(table, marks))
                    self.assertEqual(by_first(tables.block_numbers(table, marks)), wanted)
                    self.assertEqual(by_first(tables.divided_blocks(table, by_first(marks), 2)), wanted)

    def test_canonical_tables_hold_the_same_rows(self):
        rng = seeded(4)
        for size in range(1, 9):
            table, marks = random_table(rng, "ab", size)
            found, found_marks = tables.canonical(table, marks)
            for row in all_rows("ab", 7):
                self.assertEqual(read_by(found, found_marks, "ab", row), read_by(table, marks, "ab", row))

    def test_pairs_breadth_first(self):
        pairs, table = tables.paired(((1, 0), (1, 1)), ((0, 1), (1, 0)))
        self.assertEqual(pairs, [(0, 0), (1, 0), (0, 1), (1, 1)])
        self.assertEqual(table, [[1, 2], [1, 3], [3, 0], [3, 1]])

    def test_a_ring_as_long_as_two_great_ones(self):
        # Each round over all states would part off one state only.
        table = [[(state + 1) % 3540] for state in range(3540)]
        found, _ = tables.canonical(table, [state == 0 for state in range(3540)])
        self.assertEqual(len(found), 3540)

    def test_what_a_few_rounds_leave_is_divided_too(self):
        for size in (2, 39, 40, 41, 42, 43, 59, 60, 61, 200):
            # The states of such a chain are parted one in each round, from its end on.
            table = [[min(state + 1, size - 1)] for state in range(size)]
            marks = [state == size - 1 for state in range(size)]
            self.assertEqual(tables.canonical(table, marks), (tuple(map(tuple, table)), tuple(marks)))
            twice = [[2 * to, 2 * to + 1] for (to,) in table for _ in "ab"]
            found, found_marks = tables.canonical(twice, [mark for mark in marks for _ in "ab"])
            self.assertEqual((len(found), sum(found_marks)), (size, 1))


if __name__ == "__main__":
    unittest.main()
