import unittest

from helpers import GrowsCase
from stillgrows.days import Day
from stillgrows.errors import InvalidCommand
from stillgrows.journals import deed_text, journal, read_deed, read_journal
from stillgrows.lots import Lot
from stillgrows.rules import Rule
from stillgrows.sayings import Saying
from test_days import HAS_A, LOT, ORDERS, some_days, state_of

OPENING = ["day 2 ab after newest whole", "lot a b ab", "no orders"]


class TestDeedLines(GrowsCase):
    def test_lines(self):
        for line, deed in (("speak 0 0 a", ("speak", 0, 0, "a")), ("speak 5 123456789 abz", ("speak", 5, 123456789, "abz")),
                           ("hear 1 0.2 2.1", ("hear", 1, (0, 2), (2, 1))), ("hear 0", ("hear", 0)),
                           ("hear 0 0.0", ("hear", 0, (0, 0))), ("hear 10 999999999.1", ("hear", 10, (999999999, 1))),
                           ("watch x ab: 1 0 -, 1 1 +", ("watch", "x", HAS_A)),
                           ("watch abcdefghijkl z: 0 +", ("watch", "abcdefghijkl", Saying.full("z")))):
            self.same(deed_text(deed), line)
            self.same(read_deed(line), deed)
            self.assertIs(type(read_deed(line)), tuple)

    def test_a_saying_may_have_another_text(self):
        self.same(read_deed("watch x ab: 0 0 +, 1 0 -"), ("watch", "x", Saying.full("ab")))
        self.same(read_deed("watch x ab: 1 0 -, 2 2 +, 1 1 +"), ("watch", "x", HAS_A))

    def test_bent_lines(self):
        for line in ("", " ", "speak", "speak 0 0", "speak 0 0 a b", "speak 0 0 ", "speak 0 0 A", "speak 0 0 a1",
                     "speak 0 0 -", "speak 00 0 a", "speak 0 01 a", "speak -1 0 a", "speak 0 1234567890 a",
                     "speak 1234567890 0 a", "speak  0 0 a", " speak 0 0 a", "speak 0 0 a ", "speak a 0 a",
                     "speak 0 0  a", "Speak 0 0 a", "speaks 0 0 a", "speak 0 +1 a",
                     "hear", "hear ", "hear 0 ", "hear x", "hear 00", "hear 0 1", "hear 0 1.", "hear 0 .1",
                     "hear 0 1.1.1", "hear 0 01.1", "hear 0 1.01", "hear 0 1.1  1.2", "hear 0 1.1 ", "hear 0 1,1",
                     "hear 0 1.1,1.2", "hear 1234567890", "hear 0 1234567890.1", "hear 0 1.1234567890", "hear -1",
                     "hear 0 -1.1", "hear 0 1.1 x", " hear 0", "hear 0 1:1",
                     "watch", "watch x", "watch x ", "watch x ab", "watch X ab: 0 0 +", "watch x1 ab: 0 0 +",
                     "watch abcdefghijklm ab: 0 0 +", "watch  ab: 0 0 +", "watch x  ab: 0 0 +", "watch x ab: 0 0 + ",
                     "watch x ab: 0 1 +", "watch x ab: 0 0 *", "watch x ba: 0 0 +", "watch x ab:0 0 +",
                     "watch x ab: 0 00 +", "watch x ab: 0 0 +,", "watch x <a>", "watch x y ab: 0 0 +",
                     "undo", "rows", "look 0", "day 2 ab after newest whole", "-"):
            self.refuses(InvalidCommand, line, read_deed, line)


class TestJournal(GrowsCase):
    def test_lines_of_a_day(self):
        day = Day(3, "", Rule("before", "oldest", "loose"), LOT)
        self.same(journal(day), ["day 3 - before oldest loose", "lot a b ab", "no orders"])
        day.speak(2, 0, "ab")
        day.watch("x", HAS_A)
        day.hear(0, (2, 1), (2, 1))
        day.hear(1)
        self.same(journal(day)[3:], ["speak 2 0 ab", "watch x ab: 1 0 -, 1 1 +", "hear 0 2.1 2.1", "hear 1"])
        day.undo()
        self.same(len(journal(day)), 6)
        dealt = Day(1, "ab", Rule(), LOT, orders=ORDERS)
        self.same(journal(dealt), ["day 1 ab after newest whole", "lot a b ab", "orders a, b ab, -"])
        self.same(journal(Day(6, "z", Rule(), Lot([]), orders=[Lot([])] * 2)),
                  ["day 6 z after newest whole", "lot -", "orders -, -"])

    def test_written_and_read_back(self):
        for _, day in some_days(460, 24):
            lines = journal(day)
            self.assertIs(type(lines), list)
            other = read_journal(lines)
            self.assertEqual(state_of(other), state_of(day))
            self.same(journal(other), lines)
            self.assertEqual(state_of(read_journal(lines[:3])), state_of(
                Day(day.count, day.start, day.rule, day.lot, orders=day.orders)))

    def test_the_empty_opening_row(self):
        lines = ["day 3 - before oldest loose", "lot -", "orders -"]
        day = read_journal(lines)
        self.same((day.count, day.start, day.rule, day.lot, day.orders),
                  (3, "", Rule("before", "oldest", "loose"), Lot([]), (Lot([]),)))
        self.same(journal(day), lines)
        self.same(read_journal(["day 1 - after newest whole", "lot a", "no orders", "speak 0 0 a"]).stations[0].row, "a")

    def test_other_texts_of_lots_and_sayings(self):
        day = read_journal(["day 1 a after oldest whole", "lot ab b ab a", "orders b a a, ab b",
                            "watch x ab: 0 0 +, 1 0 -", "speak 0 1 ab"])
        self.same(journal(day), ["day 1 a after oldest whole", "lot a b ab", "orders a b, b ab", "watch x ab: 0 0 +",
                                 "speak 0 1 ab"])
        self.same(day.told(), [(0, "x", "sure")])

    def test_bent_openings(self):
        for first in ("", "day", "day 2 ab", "day 0 ab after newest whole", "day 7 ab after newest whole",
                      "day 02 ab after newest whole", "day x ab after newest whole", "day 2  after newest whole",
                      "day 2 after newest whole", "day 2 aB after newest whole", "day 2 a- after newest whole",
                      "day 2 -- after newest whole", "day 2 ab after newest", "day 2 ab after whole newest",
                      "day 2 ab after newest whole ", " day 2 ab after newest whole", "day  2 ab after newest whole",
                      "night 2 ab after newest whole", "day 2 ab After newest whole", "day 2 ab after  newest whole",
                      "day 2 a b after newest whole", "day 1234567890 ab after newest whole", "day -1 - after newest whole"):
            self.refuses(InvalidCommand, first, read_journal, [first] + ["x"] * 3)
        for count in range(1, 7):
            self.same(read_journal([f"day {count} - after newest whole"] + OPENING[1:]).count, count)

    def test_bent_lots_and_orders(self):
        for second in ("", "lot", "lot ", "lot  a", "lot a  b", "lot a ", "lot A", "lot a -", " lot a", "lots a", "lot a,b", "lat a",
                       "xxx a b ab"):
            self.refuses(InvalidCommand, second, read_journal, [OPENING[0], second, "x", "y"])
        for third in ("", "no", "no orders ", " no orders", "no  orders", "orders", "orders ", "orders a", "orders a, b",
                      "orders a, b, ab, a", "orders a,b,ab", "orders a, b,ab", "orders a, b, c", "orders a, ba, a",
                      "orders a, b, A", "orders a, b, ", "orders a, , b", "orders a , b, a", "orders  a, b, a",
                      "orders a, b, a ", "No orders", "orders -, -, bb",
                      "orderz a, b, a", "xxxxxx a, b, a"):
            self.refuses(InvalidCommand, third, read_journal, OPENING[:2] + [third, "x"])
        self.same(read_journal(OPENING[:2] + ["orders -, b, ab a"]).orders, (Lot([]), Lot.of("b"), Lot.of("a", "ab")))

    def test_missing_lines(self):
        self.refuses(InvalidCommand, "", read_journal, [])
        self.refuses(InvalidCommand, "", read_journal, OPENING[:1])
        self.refuses(InvalidCommand, "", read_journal, OPENING[:2])
        self.refuses(InvalidCommand, "x", read_journal, ["x"])
        self.refuses(InvalidCommand, "lots", read_journal, [OPENING[0], "lots"])
        self.same(journal(read_journal(OPENING)), OPENING)

    def test_the_first_line_that_is_bent_or_refused(self):
        deeds = ["watch x ab: 1 0 -, 1 1 +", "speak 0 1 a", "hear 1 0.1"]
        for at, line in ((0, "watch x a: 0 -"), (0, "speak 2 0 a"), (1, "speak 0 3 a"), (1, "hear 1 0.1"), (3, "hear 2"),
                         (1, "watch x ab: 0 0 +"), (2, "speak 0 1 c"), (3, "hear 1 0.1 0.2"), (3, "speak 0 1 a "), (2, ""),
                         (3, "undo")):
            lines = OPENING + deeds[:at] + [line] + deeds[at:] + ["bent"]
            self.refuses(InvalidCommand, line, read_journal, lines)
        self.same(journal(read_journal(OPENING + deeds)), OPENING + deeds)
        refused = OPENING[:2] + ["orders a, b, -"]
        self.refuses(InvalidCommand, "speak 0 1 a", read_journal, refused + deeds)
        # The orders admit `b` behind the first sign alone.
        self.same(read_journal(refused + ["speak 0 1 b", "speak 0 2 b"]).stations[0].row, "abbb")
        self.refuses(InvalidCommand, "speak 0 3 b", read_journal, refused + ["speak 0 1 b", "speak 0 3 b", "bent"])

    def test_lines_that_are_passed_stay(self):
        lines = OPENING + ["speak 0 1 a"]
        read_journal(lines)
        read_journal(tuple(lines))
        self.assertEqual(lines, OPENING + ["speak 0 1 a"])


if __name__ == "__main__":
    unittest.main()
