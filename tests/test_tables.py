import unittest

from helpers import all_rows, random_table, read_by, seeded
from stillgrows import tables


def parted(table, marks, first, second):
    """Whether some row leads exactly one of two states to a mark, by a plain search."""
    seen = {(first, second)}
    pairs = [(first, second)]
    for p, q in pairs:
        if marks[p] != marks[q]:
            return True
        for pair in zip(table[p], table[q]):
            if pair not in seen:
                seen.add(pair)
                pairs.append(pair)
    return False


class TestTables(unittest.TestCase):
    def test_reached_states_breadth_first(self):
        self.assertEqual(tables.reached_states([[3, 2], [0, 0], [2, 4], [3, 2], [0, 4]]), [0, 3, 2, 4])

    def test_blocks_hold_the_states_that_can_be_merged(self):
        rng = seeded(3)
        for signs in ("a", "ab", "abc"):
            for size in range(1, 13):
                table, marks = random_table(rng, signs, size)
                blocks = tables.block_numbers(table, marks)
                for p in range(size):
                    for q in range(size):
                        self.assertEqual(blocks[p] != blocks[q], parted(table, marks, p, q))

    def test_canonical_tables_hold_the_same_rows(self):
        rng = seeded(4)
        for size in range(1, 9):
            table, marks = random_table(rng, "ab", size)
            found, found_marks = tables.canonical(table, marks)
            for row in all_rows("ab", 7):
                self.assertEqual(read_by(found, found_marks, "ab", row), read_by(table, marks, "ab", row))

    def test_a_ring_as_long_as_two_great_ones(self):
        # Each round over all states would part off one state only.
        table = [[(state + 1) % 3540] for state in range(3540)]
        found, _ = tables.canonical(table, [state == 0 for state in range(3540)])
        self.assertEqual(len(found), 3540)


if __name__ == "__main__":
    unittest.main()
