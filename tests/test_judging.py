import itertools
import unittest

from helpers import GrowsCase
from stillgrows.calls import Call
from stillgrows.judging import closed_example, keeps_open, keeps_whole, mixing_example
from stillgrows.placing import layout
from stillgrows.rules import Rule, all_rules


def are_mixed(there, one, two):
    """Whether a sign of each of two calls stands between two signs of the other one."""
    spots = {key: [at for at, sign in enumerate(there) if sign[0] == key] for key in (one, two)}
    return all(any(min(spots[outer]) < at < max(spots[outer]) for at in spots[inner])
               for outer, inner in ((one, two), (two, one)))


def has_mixed(there):
    keys = sorted({key for key, _ in there if key is not None})
    return any(are_mixed(there, one, two) for one, two in itertools.combinations(keys, 2))


def closed_gaps(rule, start, calls):
    """The closed gaps of the layout, as point [42] tells them; the calls are of station 0."""
    there = layout(rule, start, calls)
    open_gaps = set()
    for anchor in [(None, 0)] + there:
        new = Call(0, (len(calls),), "z", anchor)
        assert all(call.stamp < new.stamp for call in calls)
        open_gaps.add(layout(rule, start, calls + [new]).index((new.key, 1)))
    return [gap for gap in range(len(there) + 1) if gap not in open_gaps]


def small_examples(most_calls, most_signs):
    """All opening rows and lists of calls of one station up to these sizes.

    One station is enough: where calls come to stand depends on the order of their stamps alone.
    """
    sizes = range(most_signs + 1)
    for opening in sizes:
        for many in range(most_calls + 1):
            for lengths in itertools.product(sizes[1:], repeat=many):
                if opening + sum(lengths) <= most_signs:
                    signs = [(None, place) for place in range(opening + 1)]
                    choices = []
                    for k, length in enumerate(lengths):
                        choices.append(list(signs))
                        signs += [((0, k + 1), place) for place in range(1, length + 1)]
                    for anchors in itertools.product(*choices):
                        yield "x" * opening, [Call(0, (k,), "a" * length, anchor)
                                              for k, (length, anchor) in enumerate(zip(lengths, anchors))]


def signs_in(start, calls):
    return len(start) + sum(len(call.group) for call in calls)


class TestWhole(GrowsCase):
    def test_which_rules_keep_groups_whole(self):
        for rule in all_rules():
            found = any(has_mixed(layout(rule, start, calls)) for start, calls in small_examples(3, 5))
            self.same(keeps_whole(rule), not found)
            self.assertEqual(keeps_whole(rule), rule.link == "whole")

    def test_examples(self):
        for rule in all_rules():
            example = mixing_example(rule)
            self.assertEqual(example is None, keeps_whole(rule))
            if example is not None:
                self.assertIsInstance(example, tuple)
                start, calls = example
                self.assertIsInstance(calls, list)
                self.assertTrue(has_mixed(layout(rule, start, calls)))
                self.assertEqual((len(calls), signs_in(start, calls)), (2, 4))

    def test_no_example_is_smaller(self):
        for rule in all_rules(link="loose"):
            self.assertFalse(any(has_mixed(layout(rule, *found)) for found in small_examples(1, 5)))
            self.assertFalse(any(has_mixed(layout(rule, *found)) for found in small_examples(2, 3)))


class TestOpen(GrowsCase):
    def test_which_rules_keep_gaps_open(self):
        for rule in all_rules():
            found = any(closed_gaps(rule, start, calls) for start, calls in small_examples(3, 4))
            self.same(keeps_open(rule), not found)
            self.assertEqual(keeps_open(rule), rule.order == "newest")

    def test_examples(self):
        for rule in all_rules():
            example = closed_example(rule)
            self.assertEqual(example is None, keeps_open(rule))
            if example is not None:
                self.assertIsInstance(example, tuple)
                start, calls, gap = example
                self.assertIsInstance(calls, list)
                self.assertIn(gap, closed_gaps(rule, start, calls))
                self.assertEqual((len(calls), signs_in(start, calls)), (1, 1))

    def test_no_example_is_smaller(self):
        for rule in all_rules(order="oldest"):
            self.assertFalse(any(closed_gaps(rule, *found) for found in small_examples(0, 6)))
            self.assertFalse(any(closed_gaps(rule, *found) for found in small_examples(1, 0)))

    def test_the_lists_are_new_ones(self):
        for example in (mixing_example, closed_example):
            rule = Rule("before", "oldest", "loose")
            example(rule)[1].clear()
            self.assertNotEqual(example(rule)[1], [])


if __name__ == "__main__":
    unittest.main()
