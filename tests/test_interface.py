"""That every name of the interface stands where the document lists it, and in which form."""

import ast
import importlib
import inspect
import pathlib
import unittest

import stillgrows

FUNCTIONS = {
    "words": ["check_signs(signs)", "check_group(group)", "check_row(row, signs)", "turned(row)",
              "renamed(row, old, new)", "rows_up_to(signs, longest)"],
    "apart": ["gap_words(growth)", "gap_growths(growth)", "woven(start, growths)", "exchanged(first, second)",
              "in_order(growth)"],
    "nests": ["bracketed(growth)", "read_bracketed(text)", "parents(growth)", "depth(growth)"],
    "leaves": ["places(row, group)", "leave(row, gap, group)", "leavings(row, lot)", "residue(row, lot)"],
    "derive": ["fewest_joins(start, target, lot)", "count_growths(start, target, lot)",
               "find_growth(start, target, lot, *, most=None)", "comes(start, target, lot, *, most=None)"],
    "rules": ["all_rules(*, side=None, order=None, link=None)"],
    "placing": ["layout(rule, start, calls)", "row_of(rule, start, calls)", "anchor_at(rule, signs_there, gap)",
                "growth_from(rule, start, calls, more)"],
    "judging": ["keeps_whole(rule)", "keeps_open(rule)", "mixing_example(rule)", "closed_example(rule)"],
    "patterns": ["read_pattern(text)", "pattern_text(tree)"],
    "making": ["followed(first, *rest)", "repeated(saying)", "shuffled(first, second)", "unshuffled(saying, other)",
               "turned_saying(saying)", "holding(signs, row)", "scattering(signs, row)"],
    "meanings": ["saying_of(tree, signs)", "saying_of_text(text, signs)"],
    "firsts": ["first_row(saying)", "parting_row(first, second)", "first_rows(saying, many, *, after=None)",
               "count_rows(saying, length)", "count_all(saying)", "longest_length(saying)"],
    "counting": ["never_counts(saying)", "counting_row(saying)", "period(saying, row)"],
    "closures": ["gap_table(moves, groups, signs)", "closed_over(saying, lot, table)",
                 "is_closed(saying, lot, table)"],
    "spreads": ["plain_spread(saying, lot)"],
    "takeouts": ["one_leaving(saying, lot)", "one_join(saying, lot)", "within_joins(saying, lot, *, most=1)"],
    "leasts": ["least_saying(saying, lot)", "least_below(saying, lot, row)", "group_free(signs, lot)",
               "holding_length(signs, lot)"],
    "costs": ["cost_table(saying, lot)", "gap_growth(saying, lot, start, last)",
              "cheapest_growth(saying, lot, row, wanted, *, most=None)"],
    "verdicts": ["verdict(spread, row)", "growth_out(saying, lot, row, *, most=None)",
                 "growth_in(saying, lot, row, *, most=None)"],
    "papers": ["paper_of(saying, lot, row)", "carried(saying, paper, row)", "accepts(saying, lot, row, paper)"],
    "sures": ["sure_of(spread)", "may_of(spread)", "sure_saying(saying, lot)", "never_saying(saying, lot)",
              "open_saying(saying, lot)", "may_saying(saying, lot)"],
    "fates": ["yes_saying(saying, lot)", "no_saying(saying, lot)", "fate(saying, lot, row)", "core(saying, lot, row)",
              "settling_growth(saying, lot, row)", "is_join_blind(saying, lot)"],
    "chains": ["chain_saying(saying, lot, words)", "shortened(words)", "all_chains()"],
    "together": ["pooled_calls(first, *others)", "pooled_row(first, *others)",
                 "pooled_verdict(saying, first, *others)"],
    "paces": ["squeezed(row, paced)", "same_pace(row, other, paced)", "stretched(row, times, *, only=None)",
              "paced_spread(saying, lot, paced)"],
    "doublings": ["doublings(row, paced)", "paced_growth(saying, lot, paced, row, wanted)"],
    "blinds": ["blind_signs(saying)", "is_pace_blind(saying, paced)", "pace_example(saying, paced)",
               "blurred(saying, paced)", "sharpened(saying, paced)"],
    "posts": ["ends_under(saying, row, orders)", "sure_under(saying, row, orders)",
              "orders_after(orders, gap, group)", "widest_orders(saying, row, lot)",
              "growth_against(saying, row, orders, gap, group)"],
    "leavings": ["play(row, story)", "joins_first(row, story)", "within_leavings(saying, lot, *, most=1)",
                 "verdict_through(saying, lot, row, *, most=1)", "story_out(saying, lot, row, *, most=1)"],
    "bases": ["base(lot)", "covers(lot, other)", "alike(lot, other)", "parting_group(lot, other)",
              "retold(growth, lot)"],
    "keepers": ["fitting(saying, row, gap)", "keeping(saying)", "neutral(saying)", "lost_by(saying, group)",
                "widest_lot(saying, *, longest=2)"],
    "sides": ["agreeing(saying, lot, other_saying, other_lot)", "parting_verdict(saying, lot, other_saying, other_lot)",
              "same_tellings(saying, lot, other_saying, other_lot)", "implies(saying, other, lot)"],
    "rulepairs": ["same_row(rule, other, start, calls)", "parting_calls(rule, other)"],
    "hidden": ["told_back(oracle, signs, *, longest=2)"],
    "journals": ["journal(day)", "deed_text(deed)", "read_deed(line)", "read_journal(lines)"],
    "reports": ["rows_report(day)", "boards_report(day)", "chains_report(saying, lot, row)",
                "counts_report(saying, lot, longest)"],
    "cuts": ["past(call)", "joined_counts(first, *others)", "common_counts(first, *others)",
             "is_within(counts, other)", "calls_within(calls, counts)", "calls_beyond(calls, counts)",
             "is_closed_cut(calls, counts)", "known_counts(station, path)", "known_row(station, path)",
             "known_verdict(station, path, saying)", "shared_counts(station, depth)",
             "settling_counts(station, saying)", "news_for(station, index)"],
}
METHODS = {
    ("sayings", "Saying"): ["__init__(self, signs, table, marks)", "full(signs)", "void(signs)", "single(signs, row)",
                            "read(text)", "step(self, state, sign)", "state_after(self, row, state=0)",
                            "renamed(self, old, new)", "text(self)", "__and__(self, other)", "__or__(self, other)",
                            "__sub__(self, other)", "__xor__(self, other)", "__invert__(self)",
                            "__le__(self, other)", "__eq__(self, other)", "__contains__(self, row)",
                            "__floordiv__(self, row)"],
    ("lots", "Lot"): ["__init__(self, groups)", "of(*groups)", "read(text)", "turned(self)", "renamed(self, old, new)",
                      "scattered(self)", "text(self)", "__or__(self, other)", "__and__(self, other)",
                      "__sub__(self, other)", "__le__(self, other)", "__eq__(self, other)",
                      "__contains__(self, group)", "__len__(self)", "__iter__(self)", "__abs__(self)"],
    ("growths", "Growth"): ["__init__(self, start, joins=())", "stages(self)", "owners(self)",
                            "renamed(self, old, new)", "turned(self)", "text(self)", "read(text)", "__len__(self)",
                            "__iter__(self)", "__getitem__(self, at)", "__eq__(self, other)", "__add__(self, other)",
                            "__lshift__(self, k)", "__rshift__(self, k)", "__abs__(self)"],
    ("stamps", "Stamp"): ["__init__(self, clock, station, number)", "__eq__(self, other)", "__lt__(self, other)"],
    ("calls", "Call"): ["__init__(self, station, seen, group, anchor=(None, 0))", "__eq__(self, other)", "text(self)",
                        "read(text)"],
    ("rules", "Rule"): ["__init__(self, side='after', order='newest', link='whole')", "__eq__(self, other)",
                        "__invert__(self)", "text(self)", "read(text)"],
    ("classes", "Classes"): ["__init__(self, saying)", "class_of(self, row)", "product(self, *numbers)",
                             "rows_of(self, number)", "__len__(self)", "__getitem__(self, number)",
                             "__iter__(self)"],
    ("spreads", "Spread"): ["__init__(self, signs, starts, moves, marks, gap)", "first(self)",
                            "after(self, states, sign)", "ends(self, row)", "ends_along(self, row)",
                            "__eq__(self, other)"],
    ("papers", "Paper"): ["__init__(self, word, table, sets)", "text(self)", "read(text)", "__eq__(self, other)"],
    ("hidden", "Oracle"): ["__init__(self, lot)", "__call__(self, saying, row)"],
    ("boards", "Board"): ["__init__(self, lot)", "watch(self, name, saying)", "look(self, row)",
                          "__getitem__(self, name)", "__contains__(self, name)", "__len__(self)", "__iter__(self)"],
    ("days", "Day"): ["__init__(self, count, start, rule, lot, *, orders=None)", "speak(self, index, gap, group)",
                      "hear(self, index, *keys)", "watch(self, name, saying)", "orders_now(self, index)",
                      "keeps(self, index, saying)", "do(self, deed)", "deeds(self)", "told(self)", "undo(self)",
                      "tried(self, *deeds)"],
    ("desks", "Desk"): ["__init__(self, day, signs)", "answer(self, line)", "run(self, *lines, keep=False)"],
    ("stewards", "Steward"): ["__init__(self, saying, free, held)", "lets(self, row, gap, group)",
                              "let_in(self, row, gap, group)", "choices(self, row)", "why(self, row, gap, group)"],
    ("stewards", "SafeSteward"): ["__init__(self, saying, free, held)", "why(self, row, gap, group)"],
    ("stewards", "HopefulSteward"): ["__init__(self, saying, free, held)", "why(self, row, gap, group)"],
    ("stewards", "SteadySteward"): ["__init__(self, saying, free, held)", "why(self, row, gap, group)"],
    ("stations", "Station"): ["__init__(self, index, count, start, rule, lot)", "layout(self)", "judged_lot(self)",
                              "tell(self, saying)", "speak(self, gap, group)", "hear(self, *calls)"],
}
PROPERTIES = {
    ("sayings", "Saying"): ["size", "is_void"],
    ("lots", "Lot"): ["letters", "longest"],
    ("growths", "Growth"): ["row"],
    ("calls", "Call"): ["stamp"],
    ("stations", "Station"): ["counts", "heard", "waiting", "row"],
}
FOLDER = pathlib.Path(stillgrows.__file__).parent


def module(name):
    return importlib.import_module("stillgrows." + name)


class TestInterface(unittest.TestCase):
    def test_functions_stand_in_their_files(self):
        for name, forms in FUNCTIONS.items():
            for form in forms:
                function = getattr(module(name), form.partition("(")[0])
                self.assertEqual(function.__module__, "stillgrows." + name)
                self.assertEqual(function.__name__ + str(inspect.signature(function)), form)

    def test_methods_stand_in_their_classes(self):
        for (name, kind), forms in METHODS.items():
            found = getattr(module(name), kind)
            self.assertEqual(found.__module__, "stillgrows." + name)
            for form in forms:
                method = form.partition("(")[0]
                self.assertIn(method, vars(found))
                self.assertEqual(method + str(inspect.signature(getattr(found, method))), form)

    def test_properties_stand_in_their_classes(self):
        for (name, kind), names in PROPERTIES.items():
            for found in names:
                self.assertIsInstance(vars(getattr(module(name), kind))[found], property)

    def test_the_package_imports_only_its_own_modules(self):
        for file in FOLDER.glob("*.py"):
            for node in ast.walk(ast.parse(file.read_text())):
                self.assertNotIsInstance(node, ast.Import, file.name)
                if isinstance(node, ast.ImportFrom) and node.module == "math":
                    self.assertEqual([alias.name for alias in node.names], ["lcm"], file.name)
                elif isinstance(node, ast.ImportFrom):
                    self.assertTrue(node.module.startswith("stillgrows."), file.name)

    def test_files_lines_and_functions_are_short(self):
        for file in FOLDER.glob("*.py"):
            text = file.read_text()
            lines = text.splitlines()
            self.assertLess(len(lines), 400, file.name)
            self.assertLessEqual(max(len(line) for line in lines), 120, file.name)
            self.assertTrue(all(" " <= sign <= "~" or sign == "\n" for sign in text), file.name)
            for node in ast.walk(ast.parse(text)):
                if isinstance(node, ast.FunctionDef):
                    self.assertLessEqual(node.end_lineno - node.lineno + 1, 40, node.name)


if __name__ == "__main__":
    unittest.main()
