import itertools
import unittest

from helpers import GrowsCase
from stillgrows.calls import Call
from stillgrows.errors import ClashingCalls, MissingAnchor
from stillgrows.placing import row_of
from stillgrows.rulepairs import parting_calls, same_row
from stillgrows.rules import Rule, all_rules

EXAMPLES = [("a", [Call(0, (0,), "b")]),
            ("", [Call(0, (0,), "a"), Call(0, (1,), "b")]),
            ("", [Call(0, (0,), "ab"), Call(0, (1,), "cd")])]


class TestPairs(GrowsCase):
    def test_all_pairs(self):
        found = {0: 0, 1: 0, 2: 0, None: 0}
        for rule, other in itertools.product(all_rules(), repeat=2):
            parting = [at for at, (start, calls) in enumerate(EXAMPLES)
                       if row_of(rule, start, calls) != row_of(other, start, calls)]
            example = parting_calls(rule, other)
            for at, (start, calls) in enumerate(EXAMPLES):
                self.same(same_row(rule, other, start, calls), at not in parting)
            if rule == other:
                self.same(example, None)
                found[None] += 1
            else:
                self.same(example, EXAMPLES[parting[0]])
                self.assertIs(type(example[1]), list)
                found[parting[0]] += 1
        self.assertEqual(found, {0: 32, 1: 16, 2: 8, None: 8})

    def test_the_list_of_calls_is_a_new_one(self):
        parting_calls(Rule(), Rule("before"))[1].clear()
        self.same(parting_calls(Rule(), Rule("before")), EXAMPLES[0])

    def test_same_row(self):
        calls = [Call.read("0 0.0 ab start:1"), Call.read("1 0.0 cd start:1"), Call.read("1 1.1 e 0.1:1")]
        rows = {rule.text(): row_of(rule, "xy", calls) for rule in all_rules()}
        for rule, other in itertools.product(all_rules(), repeat=2):
            self.same(same_row(rule, other, "xy", calls[::-1]), rows[rule.text()] == rows[other.text()])
        self.same(same_row(Rule(), Rule("after", "oldest"), "xy", calls[:1]), True)
        self.same(same_row(Rule(), Rule("before"), "", []), True)

    def test_errors(self):
        one, two = Call(0, (0, 0), "a"), Call(0, (0, 0), "b")
        far = Call(1, (0, 0), "a", (None, 3))
        for rule, other in ((Rule(), Rule()), (Rule(), Rule("before"))):
            self.refuses(ClashingCalls, (0, 1), same_row, rule, other, "ab", [far, one, two])
            self.refuses(MissingAnchor, (1, 1), same_row, rule, other, "ab", [one, far])


if __name__ == "__main__":
    unittest.main()
