"""Over the whole program: nothing that is passed is changed, equal calls give equal answers, lists are new ones."""

import copy
import importlib
import unittest

from helpers import GrowsCase
from stillgrows.boards import Board
from stillgrows.calls import Call
from stillgrows.classes import Classes
from stillgrows.days import Day
from stillgrows.desks import Desk
from stillgrows.errors import GrowsError
from stillgrows.growths import Growth
from stillgrows.hidden import Oracle, told_back
from stillgrows.lots import Lot
from stillgrows.papers import Paper
from stillgrows.rules import Rule
from stillgrows.sayings import Saying
from stillgrows.spreads import Spread
from stillgrows.stamps import Stamp
from stillgrows.stations import Station
from stillgrows.stewards import HopefulSteward, SafeSteward, SteadySteward, Steward
from test_interface import FUNCTIONS

HAS_A = Saying.read("ab: 1 0 -, 1 1 +")
OTHER = Saying.read("ab: 1 2 +, 0 2 -, 2 1 -")
LOT, WIDE = Lot.of("a", "bb"), Lot.of("ab", "b")
RULE, LOOSE = Rule(), Rule("before", "oldest", "loose")
GROWTH = Growth("ab", [(1, "cd"), (2, "e"), (0, "b")])
CALLS = [Call(0, [0, 0], "ab", (None, 1)), Call(1, [0, 0], "b"), Call(1, [1, 1], "ab", ((0, 1), 2))]
MOVES = [[[1], [0]], [[1], [0, 1]]]
TREE = ("either", ("again", ("sign", "a")), ("then", ("any",), ("not", ("empty",))))
STEPS = [("leave", 0, "a"), ("join", 1, "a"), ("join", 0, "bb")]
DEEDS = [("speak", 0, 1, "ab"), ("watch", "x", HAS_A), ("hear", 1, (0, 1))]
JOURNAL = ["day 2 a after newest whole", "lot ab b", "orders b ab, ab", "speak 0 1 ab", "hear 1 0.1"]


def a_station(index=0, rule=RULE):
    station = Station(index, 2, "ab", rule, WIDE)
    station.hear(*CALLS[:2])
    return station


def a_day():
    day = Day(2, "ab", RULE, WIDE, orders=[WIDE, WIDE, Lot([])])
    for deed in DEEDS:
        day.do(deed)
    return day


# For each function the arguments of some calls, with lists wherever lists may be passed.
SAMPLES = {
    "check_signs": [("ab",)], "check_group": [("ab",)], "check_row": [("ab", "abc")], "turned": [("ab",)],
    "renamed": [("abc", "ab", "ba")], "rows_up_to": [("ab", 2)], "gap_words": [(GROWTH,)], "gap_growths": [(GROWTH,)],
    "woven": [("a", [Growth("", [(0, "b")]), Growth("")])], "exchanged": [((1, "ab"), (0, "c"))],
    "in_order": [(GROWTH,)], "bracketed": [(GROWTH,)], "read_bracketed": [("a(b(c)d)",)], "parents": [(GROWTH,)],
    "depth": [(GROWTH,)], "places": [("aabaa", "aa")], "leave": [("aab", 1, "a")], "leavings": [("aabb", LOT)],
    "residue": [("aabb", LOT)], "fewest_joins": [("a", "abba", WIDE)], "count_growths": [("", "aaa", LOT)],
    "find_growth": [("a", "abba", Lot.of("b", "a"))], "comes": [("a", "abba", Lot.of("b", "a"))], "all_rules": [()],
    "layout": [(RULE, "ab", CALLS), (LOOSE, "ab", CALLS)], "row_of": [(RULE, "ab", CALLS), (LOOSE, "ab", CALLS)],
    "anchor_at": [(RULE, [(None, 1), (None, 2)], 1)], "growth_from": [(RULE, "ab", CALLS[:1], CALLS)],
    "keeps_whole": [(LOOSE,)], "keeps_open": [(LOOSE,)], "mixing_example": [(LOOSE,)], "closed_example": [(RULE,)],
    "read_pattern": [("a*|.~1",)], "pattern_text": [(TREE,)], "followed": [(HAS_A, OTHER)], "repeated": [(OTHER,)],
    "shuffled": [(HAS_A, OTHER)], "unshuffled": [(HAS_A, OTHER)], "turned_saying": [(OTHER,)],
    "holding": [("ab", "ba")], "scattering": [("ab", "ba")], "saying_of": [(TREE, "ab")],
    "saying_of_text": [("<aa>|b*", "ab")], "first_row": [(OTHER,)], "parting_row": [(HAS_A, OTHER)],
    "first_rows": [(OTHER, 5)], "count_rows": [(OTHER, 9)], "count_all": [(OTHER,)], "longest_length": [(OTHER,)],
    "never_counts": [(OTHER,)], "counting_row": [(OTHER,)], "period": [(OTHER, "ab")], "gap_table": [(MOVES, ["a"], "ab")],
    "closed_over": [(HAS_A, LOT, [[1, 0, 0], []])], "is_closed": [(HAS_A, LOT, [[1, 0, 0], [1]])],
    "plain_spread": [(OTHER, LOT)], "one_leaving": [(OTHER, LOT)], "one_join": [(OTHER, LOT)],
    "within_joins": [(OTHER, LOT)], "least_saying": [(HAS_A, LOT)], "least_below": [(HAS_A, LOT, "abab")],
    "group_free": [("ab", LOT)], "holding_length": [("ab", LOT)], "cost_table": [(OTHER, LOT)],
    "gap_growth": [(HAS_A, LOT, 0, 1)], "cheapest_growth": [(OTHER, LOT, "ab", [2, 1, 2])],
    "verdict": [(Spread("ab", [0], MOVES, [True, False], [[0], [0, 1]]), "ab")], "growth_out": [(OTHER, LOT, "ab")],
    "growth_in": [(OTHER, LOT, "ab")], "paper_of": [(HAS_A, LOT, "ab")],
    "carried": [(HAS_A, Paper("sure", [[0, 1], [1]], [[0, 1], [1]]), "abb")],
    "accepts": [(HAS_A, LOT, "a", Paper("sure", [[0, 1], [1]], [[0, 1], [1]]))],
    "sure_of": [(Spread("ab", [0], MOVES, [True, False], [[0], [0, 1]]),)],
    "may_of": [(Spread("ab", [0], MOVES, [True, False], [[0], [0, 1]]),)], "sure_saying": [(OTHER, LOT)],
    "never_saying": [(OTHER, LOT)], "open_saying": [(OTHER, LOT)], "may_saying": [(OTHER, LOT)],
    "yes_saying": [(OTHER, LOT)], "no_saying": [(OTHER, LOT)], "fate": [(OTHER, LOT, "ab")], "core": [(OTHER, LOT, "ab")],
    "settling_growth": [(HAS_A, LOT, "b")], "is_join_blind": [(OTHER, LOT)],
    "chain_saying": [(OTHER, LOT, ["not", "sure", "may"])], "shortened": [(["not", "not", "sure", "sure"],)],
    "all_chains": [()], "past": [(CALLS[2],)], "joined_counts": [([1, 2], [2, 1])], "common_counts": [([1, 2], [2, 1])],
    "is_within": [([1, 2], [2, 2])], "calls_within": [(CALLS, [1, 0])], "calls_beyond": [(CALLS, [1, 0])],
    "is_closed_cut": [(CALLS, [1, 2])], "known_counts": [(a_station(), [1, 0])], "known_row": [(a_station(), [1, 0])],
    "known_verdict": [(a_station(), [1, 0], HAS_A)], "shared_counts": [(a_station(), 2)],
    "settling_counts": [(a_station(), HAS_A)], "news_for": [(a_station(), 1)],
    "pooled_calls": [(a_station(), a_station(1))], "pooled_row": [(a_station(), a_station(1, LOOSE))],
    "pooled_verdict": [(HAS_A, a_station(), a_station(1))], "squeezed": [("aabb", "a")], "same_pace": [("aab", "ab", "a")],
    "stretched": [("ab", [2, 3])], "paced_spread": [(OTHER, LOT, "ba")], "doublings": [("aab", "a")],
    "paced_growth": [(OTHER, LOT, "ba", "ab", [2, 1])], "blind_signs": [(OTHER,)], "is_pace_blind": [(OTHER, "ba")],
    "pace_example": [(OTHER, "ba")], "blurred": [(OTHER, "ba")], "sharpened": [(OTHER, "ba")],
    "ends_under": [(OTHER, "a", [LOT, WIDE])], "sure_under": [(OTHER, "a", [LOT, WIDE])],
    "orders_after": [([LOT, WIDE], 1, "ab")], "widest_orders": [(HAS_A, "ab", LOT)],
    "growth_against": [(HAS_A, "a", [LOT, WIDE], 1, "b"), (OTHER, "a", [LOT, WIDE], 1, "b")], "play": [("ab", STEPS)],
    "joins_first": [("ab", STEPS)], "within_leavings": [(HAS_A, LOT)], "verdict_through": [(HAS_A, LOT, "ab")],
    "story_out": [(HAS_A, LOT, "ab")], "base": [(WIDE,)], "covers": [(WIDE, LOT)], "alike": [(WIDE, LOT)],
    "parting_group": [(WIDE, LOT)], "retold": [(GROWTH, Lot.of("b", "c", "d", "e"))], "fitting": [(OTHER, "ab", 1)],
    "keeping": [(OTHER,)], "neutral": [(OTHER,)], "lost_by": [(OTHER, "ab")], "widest_lot": [(OTHER,)],
    "agreeing": [(HAS_A, LOT, OTHER, WIDE)], "parting_verdict": [(HAS_A, LOT, OTHER, WIDE)],
    "same_tellings": [(HAS_A, LOT, OTHER, WIDE)], "implies": [(HAS_A, OTHER, LOT)],
    "same_row": [(RULE, LOOSE, "ab", CALLS)], "parting_calls": [(RULE, LOOSE)], "journal": [(a_day(),)],
    "deed_text": [(deed,) for deed in DEEDS], "read_deed": [("hear 1 0.2",)], "read_journal": [(JOURNAL,)],
    "rows_report": [(a_day(),)], "boards_report": [(a_day(),)], "chains_report": [(OTHER, LOT, "ab")],
    "counts_report": [(OTHER, LOT, 4)], "told_back": [(Oracle(LOT), "ab")],
}
# Calls that are refused.
REFUSED = {
    "woven": ("a", [Growth("")]), "layout": (RULE, "ab", CALLS[2:]), "growth_from": (LOOSE, "ab", CALLS, CALLS),
    "closed_over": (HAS_A, LOT, [[2], []]), "chain_saying": (HAS_A, LOT, ["maybe"]), "stretched": ("ab", [1]),
    "ends_under": (HAS_A, "ab", [LOT]), "orders_after": ([LOT], 0, "x"), "play": ("ab", STEPS + STEPS),
    "growth_against": (HAS_A, "a", [LOT, WIDE], 5, "b"), "read_journal": (JOURNAL + ["bent"],),
    "known_counts": (a_station(), [1, 2]), "pooled_verdict": (Saying.full("a"), a_station()),
}


def seen(worth):
    """All that a value holds, in a form that can be compared."""
    if isinstance(worth, (list, tuple)):
        return type(worth).__name__, [seen(part) for part in worth]
    if isinstance(worth, dict):
        return "dict", [(seen(key), seen(part)) for key, part in worth.items()]
    if hasattr(worth, "__dict__"):
        return type(worth).__name__, seen(vars(worth))
    return type(worth).__name__, worth


def functions():
    """The functions of the interface by their names."""
    return {form.partition("(")[0]: getattr(importlib.import_module("stillgrows." + name), form.partition("(")[0])
            for name, forms in FUNCTIONS.items() for form in forms}


def answer_of(call, args):
    """What the call returns; what a generator yields becomes a list."""
    answer = call(*args)
    return list(answer) if type(answer).__name__ == "generator" else answer


def spoilt(answer):
    """Take everything out of the lists of an answer."""
    if isinstance(answer, (list, tuple)):
        for part in answer:
            spoilt(part)
    if isinstance(answer, list):
        answer.clear()


class TestFunctions(GrowsCase):
    def test_there_is_a_sample_for_each_function(self):
        self.assertEqual(set(SAMPLES), set(functions()))

    def test_nothing_that_is_passed_is_changed(self):
        for name, call in functions().items():
            for args in SAMPLES[name]:
                before = seen(args)
                answer_of(call, args)
                if name != "told_back":
                    self.assertEqual(seen(args), before, name)

    def test_equal_calls_give_equal_answers_and_lists_are_new_ones(self):
        for name, call in functions().items():
            for args in SAMPLES[name]:
                answer = answer_of(call, copy.deepcopy(args))
                shows = seen(answer)
                self.assertEqual(seen(answer_of(call, copy.deepcopy(args))), shows, name)
                spoilt(answer_of(call, args))
                self.assertEqual(seen(answer_of(call, args)), shows, name)

    def test_refused_calls_change_nothing(self):
        for name, args in REFUSED.items():
            before = seen(args)
            with self.assertRaises(GrowsError):
                functions()[name](*args)
            self.assertEqual(seen(args), before, name)

    def test_told_back_changes_the_count_of_its_oracle_alone(self):
        oracle, saying = Oracle(LOT), copy.deepcopy(HAS_A)
        oracle(saying, "b")
        self.assertEqual(seen(saying), seen(HAS_A))
        told_back(oracle, "ab")
        other = Oracle(LOT)
        other.asked = oracle.asked
        self.assertEqual(seen(oracle), seen(other))


class TestObjects(GrowsCase):
    def test_objects_copy_the_lists_that_they_are_given(self):
        table, marks, groups, joins, seen_counts, orders = [[1, 0], [1, 1]], [False, True], ["ab"], [(0, "a")], [0, 0], [WIDE] * 3
        made = [Saying("ab", table, marks), Lot(groups), Growth("b", joins), Call(0, seen_counts, "a"),
                Spread("ab", seen_counts, [table], marks, table), Paper("sure", table, table),
                Day(1, "ab", RULE, WIDE, orders=orders)]
        before = [seen(one) for one in made]
        for kept in (table[0], table, marks, groups, joins, seen_counts, orders):
            kept.clear()
        self.assertEqual([seen(one) for one in made], before)

    def test_reading_methods_change_nothing(self):
        steward = SteadySteward(HAS_A, LOT, WIDE)
        day, station, classes = a_day(), a_station(), Classes(OTHER)
        spread, paper = Spread("ab", [0], MOVES, [True, False], [[0], [0, 1]]), Paper("sure", [[0]], [[0]])
        reads = [
            (HAS_A, [lambda a: a & OTHER, lambda a: a | OTHER, lambda a: a - OTHER, lambda a: a ^ OTHER, lambda a: ~a,
                     lambda a: a <= OTHER, lambda a: a == OTHER, lambda a: "ab" in a, lambda a: a // "ab", Saying.text,
                     lambda a: a.step(0, "a"), lambda a: a.state_after("ab"), lambda a: a.renamed("ab", "ba"),
                     lambda a: a.size, lambda a: a.is_void]),
            (WIDE, [lambda a: a | LOT, lambda a: a & LOT, lambda a: a - LOT, lambda a: a <= LOT, lambda a: a == LOT, len, abs,
                    list, lambda a: "ab" in a, lambda a: a.letters, lambda a: a.longest, Lot.turned, Lot.scattered,
                    lambda a: a.renamed("ab", "ba"), Lot.text]),
            (GROWTH, [len, list, abs, lambda a: a[0], lambda a: a == GROWTH, lambda a: a + Growth(a.row), lambda a: a << 1,
                      lambda a: a >> 1, lambda a: a.row, lambda a: list(a.stages()), Growth.owners, Growth.turned,
                      lambda a: a.renamed("ab", "ba"), Growth.text]),
            (CALLS[2], [Call.text, lambda a: a.stamp, lambda a: a == CALLS[0]]), (RULE, [Rule.text, lambda a: ~a]),
            (Stamp(1, 2, 3), [lambda a: a < Stamp(1, 2, 4), lambda a: a == Stamp(1, 2, 3)]),
            (classes, [len, list, lambda a: a[1], lambda a: a.class_of("ab"), lambda a: a.product(1, 0, 1),
                       lambda a: a.rows_of(1)]),
            (spread, [Spread.first, lambda a: a.after([1, 0], "a"), lambda a: a.ends("ab"), lambda a: list(a.ends_along("ab"))]),
            (paper, [Paper.text, lambda a: a == paper]),
            (station, [lambda a: a.counts, lambda a: a.heard, lambda a: a.waiting, lambda a: a.row, Station.layout,
                       Station.judged_lot, lambda a: a.tell(HAS_A)]),
            (day, [Day.deeds, Day.told, lambda a: a.orders_now(0), lambda a: a.keeps(1, HAS_A),
                   lambda a: [len(board) + len(list(board)) for board in a.boards], lambda a: "x" in a.boards[0],
                   lambda a: a.boards[0]["x"]]),
            (Desk(day, "ab"), [lambda a, line=line: a.answer(line) for line in (
                "rows", "boards", "journal", "fate x", "pool x", "why 1 x", "knows 1 x 0", "least x 3")])]
        reads += [(one, [lambda a: a.lets("ab", 1, "bb"), lambda a: a.why("b", 1, "b"), lambda a: list(a.choices("ab"))])
                  for one in (steward, SafeSteward(HAS_A, LOT, WIDE), HopefulSteward(HAS_A, LOT, WIDE),
                              Steward(HAS_A, LOT, WIDE))]
        for one, calls in reads:
            before = seen(one)
            for call in calls:
                answer = call(one)
                self.assertEqual(seen(one), before)
                shows = seen(answer)
                spoilt(answer)
                self.assertEqual(seen(call(one)), shows)
                self.assertEqual(seen(one), before)

    def test_no_object_is_equal_to_a_value_of_another_class(self):
        made = [HAS_A, LOT, GROWTH, CALLS[0], RULE, Stamp(1, 1, 1), Classes(HAS_A), Spread("ab", [0], [], [], []),
                Paper("sure", [[0]], [[0]]), a_station(), Steward(HAS_A, LOT, LOT), SafeSteward(HAS_A, LOT, LOT),
                Oracle(LOT), Board(LOT), a_day(), Desk(a_day(), "ab")]
        for one in made:
            for other in made + [None, 1, "ab", "", (), [], {}, False]:
                self.same(one == other, one is other)
                self.same(one != other, one is not other)


if __name__ == "__main__":
    unittest.main()
