import unittest

from helpers import GrowsCase, all_rows, seeded
from stillgrows.sayings import Saying
from stillgrows.subsets import first_way, mask_of, saying_of_masks, union_at, union_tables


def plain_marked(starts, moves, marks, columns):
    """Whether the signs at these columns can lead some start to a marked state."""
    states = set(starts)
    for column in columns:
        states = {to for state in states for to in moves[column][state]}
    return bool(states & set(marks))


class TestSubsets(GrowsCase):
    def test_masks(self):
        self.assertEqual([mask_of([]), mask_of([0]), mask_of((3, 1, 3))], [0, 1, 10])

    def test_unions(self):
        rng = seeded(30)
        for many in (1, 7, 8, 9, 20):
            masks = [rng.randrange(1000) for _ in range(many)]
            tables = union_tables(masks)
            for _ in range(50):
                states = [state for state in range(many) if rng.random() < 0.4]
                union = 0
                for state in states:
                    union |= masks[state]
                self.assertEqual(union_at(tables, mask_of(states)), union)

    def test_signs_that_lead_to_several_states_or_to_none(self):
        rng = seeded(31)
        for size in (1, 2, 5, 9, 12):
            moves = [[[to for to in range(size) if rng.random() < 1.3 / size] for _ in range(size)] for _ in "ab"]
            starts = [0, size - 1]
            marks = [state for state in range(size) if rng.random() < 0.3]
            masks = [[mask_of(states) for states in column] for column in moves]
            saying = saying_of_masks("ab", mask_of(starts), masks, mask_of(marks))
            for row in all_rows("ab", 6):
                columns = ["ab".index(sign) for sign in row]
                self.assertEqual(row in saying, plain_marked(starts, moves, marks, columns))

    def test_no_starts(self):
        self.assertEqual(saying_of_masks("a", 0, [[1]], 1), Saying.void("a"))

    def test_all_sets_of_16_states(self):
        # A ring, an exchange, a sign that adds a state, and one that takes a state away.
        ring = [1 << (state + 1) % 16 for state in range(16)]
        exchange = [2, 1] + [1 << state for state in range(2, 16)]
        adding = [1, 3] + [1 << state for state in range(2, 16)]
        taking = [0] + [1 << state for state in range(1, 16)]
        self.assertEqual(saying_of_masks("abcd", 1, [ring, exchange, adding, taking], 1).size, 65536)


    def test_the_first_row_that_can_lead_to_a_wanted_state(self):
        rng = seeded(32)
        found = set()
        for _ in range(80):
            size = rng.randint(1, 5)
            moves = [[[to for to in range(size) if rng.random() < 0.9 / size] for _ in range(size)] for _ in "ab"]
            starts, wanted = [0, size - 1], [rng.randrange(size)]
            masks = [[mask_of(states) for states in column] for column in moves]
            row = first_way("ab", mask_of(starts), masks, mask_of(wanted))
            rows = [other for other in all_rows("ab", 5) if plain_marked(starts, moves, wanted, ["ab".index(sign) for sign in other])]
            self.same(row, rows[0] if rows else None)
            found.add(row)
        self.assertLessEqual({None, "", "a", "b"}, found)


if __name__ == "__main__":
    unittest.main()
