import unittest

from helpers import GrowsCase, grown, moves_of, plain_closure, random_lot, random_saying, seeded
from stillgrows.sayings import Saying
from stillgrows.subsets import columns_of, mask_of, states_of
from stillgrows.walks import Walks, group_tree


def walks_of(saying, groups, price):
    own = [1 << state for state in range(saying.size)]
    return Walks(columns_of(saying), own, groups, saying.signs, price)


class TestWalks(GrowsCase):
    def test_the_tree_of_beginnings(self):
        branches, groups_at = group_tree(("a", "ab", "b", "abb"), "ab")
        self.assertEqual(branches, [[(0, 1), (1, 3)], [(1, 2)], [(1, 4)], [], []])
        self.assertEqual(groups_at, ["", "a", "ab", "b", "abb"])
        self.assertEqual(group_tree((), "ab"), ([[]], [""]))
        self.assertEqual(group_tree(("ab", "ab"), "ab"), ([[(0, 1)], [(1, 2)], []], ["", "", "ab"]))

    def test_without_a_price(self):
        rng = seeded(100)
        for _ in range(40):
            saying, lot = random_saying(rng, "ab", rng.randint(2, 6)), random_lot(rng, "ab", 3, 4)
            own = [[state] for state in range(saying.size)]
            wanted = plain_closure(moves_of(saying), lot.groups, "ab", own)
            walks = walks_of(saying, lot.groups, 0)
            self.assertEqual([tuple(states_of(mask)) for mask in walks.closed()], list(wanted))
            self.assertEqual([walks.filled(state) for state in range(saying.size)],
                             [{0: mask_of(entry)} for entry in wanted])

    def test_costs_are_the_fewest_joins(self):
        rng = seeded(101)
        for _ in range(25):
            saying, lot = random_saying(rng, "ab", rng.randint(2, 4)), random_lot(rng, "ab", 2, 2)
            costs = {}
            level, seen = {""}, set()
            for joins in range(6):
                for filling in level:
                    for state in range(saying.size):
                        costs.setdefault((state, saying.state_after(filling, state)), joins)
                seen |= level
                level = {row for before in level for row in grown(before, lot.groups, len(before) + lot.longest)
                         if row not in seen and any(row[:gap] + row[gap + len(group):] == before
                                                    for group in lot.groups for gap in range(len(row))
                                                    if row.startswith(group, gap))}
            walks = walks_of(saying, lot.groups, 1)
            for state in range(saying.size):
                found = {to: cost for cost, mask in walks.filled(state).items() for to in states_of(mask)}
                for to in range(saying.size):
                    if found.get(to, 99) < 6:
                        self.assertEqual(costs.get((state, to)), found[to])
                    else:
                        self.assertNotIn((state, to), costs)

    def test_what_is_returned_may_be_changed(self):
        walks = walks_of(Saying.read("ab: 1 0 -, 1 1 +"), ("a",), 1)
        walks.filled(0).clear()
        walks.closed().clear()
        self.assertEqual(walks.filled(0), {0: 1, 1: 2})
        self.assertEqual(walks.closed(), [3, 2])


if __name__ == "__main__":
    unittest.main()
