import unittest

from helpers import GrowsCase, rows_in, seeded
from stillgrows.days import Day
from stillgrows.desks import Desk
from stillgrows.errors import (GapOutOfRange, GrowsError, InvalidCommand, InvalidPattern, InvalidSigns,
                               NameTaken, NotHolding, NothingToUndo, NotInLot, RefusedJoin, UnknownCall, UnknownName,
                               UnknownSign, UnknownStation)
from stillgrows.cuts import known_verdict
from stillgrows.fates import fate
from stillgrows.growths import Growth
from stillgrows.journals import journal
from stillgrows.lots import Lot
from stillgrows.meanings import saying_of_text
from stillgrows.papers import Paper, accepts, paper_of
from stillgrows.posts import widest_orders
from stillgrows.reports import boards_report, rows_report
from stillgrows.rules import Rule
from stillgrows.sayings import Saying
from stillgrows.sures import sure_saying
from stillgrows.together import pooled_verdict
from test_days import LOT, ORDERS, do_or_refuse, random_deed, state_of

HAS_A = Saying.read("ab: 1 0 -, 1 1 +")
LOOSE = Rule("after", "newest", "loose")
LOOKS = ("fate", "pool", "orders", "why", "knows", "least")


def new_desk(count=2, start="b", rule=None, lot=None, orders=None, signs="ab"):
    return Desk(Day(count, start, rule or Rule(), lot or Lot.of("a"), orders=orders), signs)


class DeskCase(GrowsCase):
    def refuses_line(self, desk, error, value, line):
        """Check that the line is refused, also by `run`, and that nothing is changed."""
        before = state_of(desk.day)
        self.refuses(error, value, desk.answer, line)
        for keep in (False, True):
            with self.assertRaises(InvalidCommand) as caught:
                desk.run(line, keep=keep)
            self.assertEqual(caught.exception.value, line)
            self.assertIs(type(caught.exception.__cause__), error)
            self.assertEqual(caught.exception.__cause__.value, value)
        self.assertEqual(state_of(desk.day), before)

    def looks_at(self, desk, line):
        """Return the answer to a line that must change nothing."""
        before = state_of(desk.day)
        answer = desk.answer(line)
        self.assertEqual(state_of(desk.day), before)
        self.assertTrue(type(answer) is list and all(type(row) is str for row in answer))
        return answer


class TestNew(DeskCase):
    def test_fields(self):
        day = Day(1, "a", Rule(), LOT)
        desk = Desk(day, "abx")
        self.assertIs(desk.day, day)
        self.same(desk.signs, "abx")

    def test_no_alphabet(self):
        for signs in ("", "ba", "aa", "abcde", "aB"):
            self.refuses(InvalidSigns, signs, Desk, Day(1, "", Rule(), LOT), signs)


class TestDeeds(DeskCase):
    def test_answers(self):
        desk = new_desk(lot=LOT)
        self.same(desk.answer("speak 1 1 ab"), ["1.1 bab"])
        self.same(desk.answer("watch x <a>"), ["2 states", "1 x sure"])
        self.same(desk.answer("watch none 0"), ["1 states", "0 none never", "1 none never"])
        self.same(desk.answer("speak 1 0 b"), ["1.2 bbab"])
        self.same(desk.answer("hear 0 1.2"), ["0 heard, 1 waiting"])
        self.same(desk.answer("hear 0"), ["0 heard, 1 waiting"])
        self.same(desk.answer("hear 0 1.1 1.1 1.2"), ["2 heard, 0 waiting", "0 x sure"])
        self.same(desk.day.deeds(), [("speak", 1, 1, "ab"), ("watch", "x", HAS_A), ("watch", "none", Saying.void("ab")),
                                     ("speak", 1, 0, "b"), ("hear", 0, (1, 2)), ("hear", 0),
                                     ("hear", 0, (1, 1), (1, 1), (1, 2))])

    def test_settlings_in_the_order_of_told(self):
        desk = new_desk(3, "b", lot=LOT)
        desk.run("watch two <a>", "watch one ~<a>", "watch six <aab>")
        self.same(desk.answer("speak 2 0 a"), ["2.1 ab", "2 two sure", "2 one never"])
        self.same(desk.answer("hear 0 2.1"), ["1 heard, 0 waiting", "0 two sure", "0 one never"])

    def test_watched_sayings_are_over_the_alphabet_of_the_desk(self):
        desk = new_desk(signs="abc")
        desk.answer("watch x .*c|b")
        self.same(desk.day.deeds(), [("watch", "x", saying_of_text(".*c|b", "abc"))])

    def test_errors_of_speak_and_hear(self):
        desk = new_desk(2, "ab", lot=LOT, orders=ORDERS)
        desk.answer("speak 0 0 a")
        for line, error, value in (("speak 2 9 x", UnknownStation, 2), ("speak 0 4 x", GapOutOfRange, 4),
                                   ("speak 0 3 x", NotInLot, "x"), ("speak 0 3 a", RefusedJoin, (3, "a")),
                                   ("hear 2 0.9", UnknownStation, 2), ("hear 1 0.1 0.3 1.1", UnknownCall, (0, 3)),
                                   ("hear 1 0.0", UnknownCall, (0, 0))):
            self.refuses_line(desk, error, value, line)

    def test_errors_of_watch_in_their_order(self):
        desk = new_desk(2, "bx", lot=Lot.of("a"), signs="ab")
        self.refuses_line(desk, InvalidPattern, 2, "watch x <a)")
        self.refuses_line(desk, UnknownSign, "c", "watch x ac")
        self.refuses_line(desk, UnknownSign, "x", "watch x a")
        other = new_desk()
        other.answer("watch x <a>")
        self.refuses_line(other, InvalidPattern, 0, "watch x *")
        self.refuses_line(other, InvalidPattern, 2, "watch x ab:")
        self.refuses_line(other, UnknownSign, "c", "watch x c")
        self.refuses_line(other, NameTaken, "x", "watch x b")
        narrow = new_desk(lot=Lot.of("ca"))
        self.refuses_line(narrow, UnknownSign, "c", "watch x a")

    def test_loose_rules(self):
        desk = new_desk(1, "b", LOOSE, Lot.of("ab"))
        self.same(desk.run("watch x <a>", "watch y <ab>", "speak 0 0 ab", "speak 0 0 ab", "why 0 y"),
                  [["2 states"], ["3 states"], ["0.1 abb", "0 x sure", "0 y sure"], ["0.2 aabbb"],
                   ["sure; 0 1 2, 1 2, 2; 0 1 2, 1 2, 1 2, 2, 2, 2"]])


class TestForms(DeskCase):
    def test_lines_without_a_form(self):
        desk = new_desk(lot=LOT)
        desk.run("watch x <a>", "speak 0 0 b")
        for line in ("", " ", "x", "rows ", " rows", "rows rows", "rows 0", "boards x", "journal ", "undo 1", "undo ",
                     "Rows", "row", "fate", "fate x y", "fate X", "fate ", "fate x1", "fate abcdefghijklm", "fate  x",
                     "pool", "pool 0", "pool x x", "orders", "orders x ", "orders 0 x", "why", "why x", "why 0",
                     "why 0 x 0", "why x 0", "why 00 x", "why 1234567890 x", "why -1 x", "why  0 x", "why 0 x ",
                     "knows", "knows 0", "knows x", "knows 0 x y", "knows 0 x 01", "knows 0 x 1234567890",
                     "knows 0 x  1", "knows 0 x 1 ", "knows x 0", "knows 0 1 x", "least", "least x", "least 3 x",
                     "least x 03", "least x 3 3", "least x 1234567890", "least x ", "least x -1", "least  x 3",
                     "watch", "watch y", "watch y ", "watch y a b", "watch Y a", "watch y1 a", "watch  a",
                     "watch abcdefghijklm a", "watch y  a", "watch y a ", " watch y a", "watch y ab: 0 0 +",
                     "speak", "speak 0 0", "speak 0 0 A", "speak 0  0 a", "speak 0 0 a ", "speak 00 0 a",
                     "speak 0 1234567890 a", "hear", "hear ", "hear 0 ", "hear 0 1", "hear 0  0.1", "hear 0 0.01",
                     "hear 0 0.1 ", "hear 1234567890", "no orders", "lot a", "day 2 b after newest whole"):
            self.refuses_line(desk, InvalidCommand, line, line)

    def test_unknown_names_come_before_unknown_stations(self):
        desk = new_desk()
        desk.answer("watch x <a>")
        for line in ("fate y", "pool y", "orders y", "why 9 y", "knows 9 y", "knows 0 y 9", "least y 3",
                     "why 999999999 y"):
            self.refuses_line(desk, UnknownName, "y", line)
        for line, index in (("why 2 x", 2), ("knows 2 x 9", 2), ("knows 0 x 1 5 9", 5), ("knows 1 x 999999999", 999999999)):
            self.refuses_line(desk, UnknownStation, index, line)
        self.same(self.looks_at(desk, "knows 1 x 0 1"), ["open"])


class TestLooks(DeskCase):
    def test_reports_and_journal(self):
        desk = new_desk(lot=LOT)
        desk.run("watch x <a>", "speak 0 1 ab", "hear 1 0.1")
        self.same(self.looks_at(desk, "rows"), ["station   heard waiting  row", "0             1       0  bab",
                                                "1             1       0  bab"])
        self.same(self.looks_at(desk, "boards"), ["name              0      1", "x              sure   sure"])
        self.same(self.looks_at(desk, "journal"), ["day 2 b after newest whole", "lot a b ab", "no orders",
                                                   "watch x ab: 1 0 -, 1 1 +", "speak 0 1 ab", "hear 1 0.1"])

    def test_undo(self):
        desk = new_desk(lot=LOT, orders=[LOT, LOT])
        states = []
        lines = ["watch x ab: 1 0 -, 1 1 +", "speak 0 1 ab", "hear 1 0.1", "hear 1"]
        for line in ["watch x <a>"] + lines[1:]:
            states.append(state_of(desk.day))
            desk.answer(line)
        for line in lines[::-1]:
            self.same(desk.answer("undo"), [line])
            self.assertEqual(state_of(desk.day), states.pop())
        self.refuses_line(desk, NothingToUndo, 0, "undo")

    def test_an_undone_name_is_unknown(self):
        desk = new_desk()
        desk.run("watch x <a>", "undo")
        self.refuses_line(desk, UnknownName, "x", "fate x")
        desk.answer("watch x b*")
        self.same(self.looks_at(desk, "fate x"), ["no"])

    def test_some_answers(self):
        desk = new_desk(2, "b")
        desk.run("watch x <a>", "watch none <bb>", "watch two ~<aa>", "speak 1 1 a")
        for line, answer in (("fate x", "yes"), ("fate none", "no"), ("fate two", "no"), ("pool x", "sure"),
                             ("pool two", "open"), ("pool none", "never"), ("knows 0 x", "open"), ("knows 1 x", "sure"),
                             ("knows 1 x 1 1", "sure"), ("knows 1 x 0", "open"), ("knows 1 x 0 1", "open"),
                             ("why 1 x", "sure; 0 1, 1; 0 1, 0 1, 1"), ("why 0 none", "never; 0, 0 1, 2; 0, 0 1"),
                             ("orders two", "-, -"), ("least none 5", "0")):
            self.same(self.looks_at(desk, line), [answer])
        self.refuses_line(desk, NotHolding, "b", "orders x")
        self.assertIn(self.looks_at(desk, "why 0 x"), (["in b: 0 a", "out b: -"], ["in b: 1 a", "out b: -"]))
        self.same(self.looks_at(desk, "least x 2"), ["endless", "a", "ab"])

    def test_orders(self):
        desk = new_desk(1, "ab", lot=Lot.of("a", "b"))
        desk.run("watch x .*b", "watch y .*")
        self.same(self.looks_at(desk, "orders x"), ["a b, a b, b"])
        self.same(self.looks_at(desk, "orders y"), ["a b, a b, a b"])

    def test_least(self):
        desk = new_desk(1, "b", lot=Lot.of("a", "b"))
        desk.run("watch x <a>", "watch y .*", "watch z <ab>|<ba>", "watch w ab", "watch v <aab>")
        for line, answer in (("least x 9", ["1", "a"]), ("least x 0", ["1"]), ("least y 3", ["1", "-"]),
                             ("least w 3", ["0"]), ("least x 60", ["1", "a"])):
            self.same(self.looks_at(desk, line), answer)
        endless = new_desk(1, "b", lot=Lot.of("a"))
        endless.answer("watch x <a>")
        self.same(self.looks_at(endless, "least x 4"), ["endless", "a", "ab", "ba", "abb"])

    def test_answers_are_those_of_the_functions(self):
        rng = seeded(480)
        kinds = set()
        for at in range(24):
            rule = LOOSE if at % 3 == 0 else Rule()
            desk = new_desk(rng.randint(1, 3), rng.choice(["", "ab", "bab"]), rule, Lot.of("ab", "b"))
            day = desk.day
            pattern = rng.choice(["<a>", "~<a>", "<ab>", "(ab)*", ".*b", "a.*|1", "<aa>&<b>", "~<bb>", "1", "(..)*"])
            saying = saying_of_text(pattern, "ab")
            desk.answer(f"watch x {pattern}")
            for _ in range(6):
                do_or_refuse(day, random_deed(rng, day))
            lot = Lot.of("a", "b") if rule is LOOSE else Lot.of("ab", "b")
            self.same(self.looks_at(desk, "rows"), rows_report(day))
            self.same(self.looks_at(desk, "boards"), boards_report(day))
            self.same(self.looks_at(desk, "journal"), journal(day))
            self.same(self.looks_at(desk, "fate x"), [fate(saying, lot, day.start)])
            self.same(self.looks_at(desk, "pool x"), [pooled_verdict(saying, *day.stations)])
            if day.start in saying:
                lots = widest_orders(saying, day.start, lot)
                self.same(self.looks_at(desk, "orders x"), [", ".join(one.text() for one in lots)])
            else:
                self.refuses_line(desk, NotHolding, day.start, "orders x")
            for index in range(day.count):
                kinds.add(self.check_why(desk, index, saying, lot))
                for path in ((), (0,), (day.count - 1, 0), (0, day.count - 1, 0)):
                    line = " ".join(["knows", str(index), "x"] + [str(other) for other in path])
                    self.same(self.looks_at(desk, line), [known_verdict(day.stations[index], path, saying)])
            self.check_least(desk, saying, lot)
        self.assertEqual(kinds, {"sure", "never", "open"})

    def check_why(self, desk, index, saying, lot):
        station = desk.day.stations[index]
        answer = self.looks_at(desk, f"why {index} x")
        told = station.tell(saying)
        if told != "open":
            self.assertEqual(len(answer), 1)
            paper = Paper.read(answer[0])
            self.assertEqual(paper, paper_of(saying, lot, station.row))
            self.assertTrue(accepts(saying, lot, station.row, paper))
            return told
        self.assertEqual([line.split(" ")[0] for line in answer], ["in", "out"])
        growths = [Growth.read(line.partition(" ")[2]) for line in answer]
        self.assertEqual([growth.start for growth in growths], [station.row] * 2)
        self.assertEqual([growth.row in saying for growth in growths], [True, False])
        self.assertTrue(all(group in lot for growth in growths for _, group in growth.joins))
        self.assertIn(0, [len(growth) for growth in growths])
        return told

    def check_least(self, desk, saying, lot):
        """Check the least rows against the sure rows from which no leaving leads to a sure row."""
        sure = sure_saying(saying, lot)
        rows = [row for row in rows_in(sure, 7) if not any(
            row[:gap] + row[gap + len(group):] in sure for gap in range(len(row)) for group in lot
            if row.startswith(group, gap))]
        answer = self.looks_at(desk, "least x 4")
        self.assertEqual(answer[1:], [row or "-" for row in rows[:4]])
        if answer[0] != "endless":
            self.assertEqual(int(answer[0]), len(rows))


class TestRun(DeskCase):
    def test_answers(self):
        for keep in (False, True):
            desk = new_desk(lot=LOT)
            self.same(desk.run("watch x <a>", "speak 1 0 b", "fate x", "undo", "rows", keep=keep),
                      [["2 states"], ["1.1 bb"], ["yes"], ["speak 1 0 b"],
                       ["station   heard waiting  row", "0             0       0  b", "1             0       0  b"]])
            self.same(desk.day.deeds(), [("watch", "x", HAS_A)])
            self.same(desk.run(keep=keep), [])
        self.same(new_desk().run("journal"), [["day 2 b after newest whole", "lot a", "no orders"]])

    def test_a_refused_line(self):
        for keep in (False, True):
            desk = new_desk(lot=LOT)
            desk.run("watch x <a>", "speak 0 0 ab")
            before = state_of(desk.day)
            lines = ("speak 1 1 b", "speak 1 9 b", "speak 1 0 a", "bent")
            with self.assertRaises(InvalidCommand) as caught:
                desk.run(*lines, keep=keep)
            self.assertIs(type(caught.exception), InvalidCommand)
            self.same(caught.exception.value, "speak 1 9 b")
            self.assertIs(type(caught.exception.__cause__), GapOutOfRange)
            self.assertEqual(caught.exception.__cause__.value, 9)
            if keep:
                self.same(desk.day.deeds()[2:], [("speak", 1, 1, "b")])
                self.same(desk.day.stations[1].row, "bb")
                desk.answer("undo")
            self.assertEqual(state_of(desk.day), before)

    def test_keep_is_false_by_default(self):
        desk = new_desk()
        self.refuses(InvalidCommand, "bent", desk.run, "speak 0 0 a", "bent")
        self.same(desk.day.deeds(), [])

    def test_the_cause_of_a_line_without_a_form(self):
        desk = new_desk()
        with self.assertRaises(InvalidCommand) as caught:
            desk.run("rows ")
        self.assertIs(type(caught.exception.__cause__), InvalidCommand)
        self.same(caught.exception.__cause__.value, "rows ")
        self.assertIsNot(caught.exception.__cause__, caught.exception)

    def test_behind_an_undo(self):
        first = ["watch x <a>", "speak 0 0 ab", "hear 1 0.1", "speak 1 1 b"]
        for lines, kept in ((["undo", "undo", "speak 0 1 b", "bent"], first[:2] + ["speak 0 1 b"]),
                            (["undo"] * 4 + ["bent"], []), (["undo"] * 5, []),
                            (["undo", "speak 1 1 b", "bent"], first), (["undo", "speak 1 1 a", "bent"],
                                                                       first[:3] + ["speak 1 1 a"]),
                            (["speak 0 0 b", "undo", "undo", "bent"], first[:3]),
                            (["undo"] * 4 + ["watch x <b>", "speak 0 0 ab", "bent"], ["watch x <b>", "speak 0 0 ab"])):
            for keep in (False, True):
                desk = new_desk(lot=LOT)
                desk.run(*first)
                before = state_of(desk.day)
                with self.assertRaises(InvalidCommand) as caught:
                    desk.run(*lines, keep=keep)
                self.assertEqual(caught.exception.value, lines[-1])
                wanted = new_desk(lot=LOT)
                wanted.run(*kept)
                self.assertEqual(state_of(desk.day), state_of(wanted.day) if keep else before)
                self.same(desk.day.undo() if desk.day.deeds() else None, wanted.day.undo() if keep and kept else
                          ("speak", 1, 1, "b") if not keep else None)

    def test_random_lines(self):
        rng = seeded(481)
        for _ in range(30):
            desk = new_desk(2, "ab", lot=LOT, orders=rng.choice([None, ORDERS]))
            for keep in (False, True, False):
                lines = [rng.choice(["undo", "rows", "watch x <a>", "watch y b*", "speak 0 1 b", "speak 1 1 ab", "speak 0 0 a",
                                     "hear 1 0.1", "hear 0 1.1", "fate x", "why 0 x", "speak 1 2 b"]) for _ in range(5)]
                other = Desk(Day(2, "ab", Rule(), LOT, orders=desk.day.orders), "ab")
                for deed in desk.day.deeds():
                    other.day.do(deed)
                before, answers, refused = state_of(desk.day), [], None
                for line in lines:
                    try:
                        answers.append(other.answer(line))
                    except GrowsError as error:
                        refused = line, type(error), error.value
                        break
                if refused is None:
                    self.same(desk.run(*lines, keep=keep), answers)
                    self.assertEqual(state_of(desk.day), state_of(other.day))
                    continue
                with self.assertRaises(InvalidCommand) as caught:
                    desk.run(*lines, keep=keep)
                cause = caught.exception.__cause__
                self.assertEqual((caught.exception.value, type(cause), cause.value), refused)
                self.assertEqual(state_of(desk.day), state_of(other.day) if keep else before)


class TestSizes(DeskCase):
    def test_the_greatest_sizes(self):
        desk = new_desk(6, "ab", lot=Lot.of("a", "ba", "cd", "dcb", "abcd", "bbbb", "ccccc", "dddddd"), signs="abcd")
        for name, pattern in (("p", "(....)*"), ("q", "<abc>&~<dd>"), ("r", "~<abc>"), ("s", "<aa>|<bb>")):
            desk.answer(f"watch {name} {pattern}")
        for at in range(60):
            desk.answer(f"speak {at % 6} 1 {('a', 'ba', 'cd')[at % 3]}")
        for index in range(6):
            desk.answer(f"hear {index} " + " ".join(f"{at % 6}.{at // 6 + 1}" for at in range(60)))
        for line in ("rows", "boards", "journal", "fate r", "pool q", "why 3 s", "why 2 p", "knows 1 r 2 3 4 5",
                     "least r 60", "least s 60"):
            self.looks_at(desk, line)

    def test_least_rows_of_many_sure_rows(self):
        # The ends of the rows are many sets of states here.
        for table, lot in ((((0, 1, 2, 0), (2, 2, 3, 1), (4, 4, 0, 2), (3, 0, 1, 0), (1, 3, 4, 4)), Lot.of("dddddd")),
                           (((1, 0, 2, 3), (4, 1, 3, 1), (2, 4, 0, 2), (3, 3, 1, 3), (0, 2, 4, 4)), Lot.of("dd", "bbbb"))):
            day = Day(1, "", Rule(), lot)
            day.watch("x", Saying("abcd", table, [False, True, True, True, True]))
            answer = Desk(day, "abcd").answer("least x 60")
            self.assertEqual((answer[0], len(answer)), ("endless", 61))


if __name__ == "__main__":
    unittest.main()
