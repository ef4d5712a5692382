import unittest

from helpers import GrowsCase, random_saying, seeded
from stillgrows.boards import Board
from stillgrows.calls import Call
from stillgrows.days import Day
from stillgrows.errors import (GapOutOfRange, NameTaken, NothingToUndo, NotInLot, RefusedJoin, UnknownCall, UnknownSign,
                               UnknownStation, WrongCount)
from stillgrows.lots import Lot
from stillgrows.posts import sure_under
from stillgrows.rules import Rule, all_rules
from stillgrows.sayings import Saying
from stillgrows.stations import Station

HAS_A = Saying.read("ab: 1 0 -, 1 1 +")
LOT = Lot.of("a", "b", "ab")
ORDERS = [Lot.of("a"), Lot.of("b", "ab"), Lot([])]
LOOSE = Rule("after", "newest", "loose")


def shown(board):
    return {name: board[name] for name in board}


def state_of(day):
    """All that can be seen of a day."""
    stations = [(one.index, one.count, one.start, one.rule, one.lot, one.counts, one.heard, one.waiting, one.row)
                for one in day.stations]
    boards = [(board.lot, list(board), shown(board)) for board in day.boards]
    orders = [day.orders_now(index) for index in range(day.count)]
    return day.count, day.start, day.rule, day.lot, day.orders, stations, boards, orders, day.deeds(), day.told()


def random_deed(rng, day, refused=0.2):
    """A deed for the day, which may be refused now and then."""
    index = rng.randrange(day.count) if rng.random() > refused / 4 else day.count
    kind = rng.random()
    if kind < 0.45:
        row = day.stations[index % day.count].row
        return "speak", index, rng.randint(0, len(row) + (rng.random() < refused)), rng.choice(["a", "b", "ab", "ab"])
    if kind < 0.9:
        keys = [call.key for station in day.stations for call in station.heard]
        found = [rng.choice(keys) for _ in range(rng.randint(0, 3)) if keys]
        return ("hear", index) + tuple(found) + (((0, 90),) if rng.random() < refused / 2 else ())
    return "watch", rng.choice("pqrstuvw"), random_saying(rng, "ab", rng.randint(1, 4))


def some_days(seed, many=12, deeds=14):
    """Days with deeds, some with orders, under each rule."""
    rng = seeded(seed)
    rules = all_rules()
    for at in range(many):
        orders = rng.choice([None, ORDERS, [LOT, LOT, LOT], [LOT, Lot.of("a"), Lot.of("b")]])
        day = Day(rng.randint(1, 3), "ab", rules[at % 8], LOT, orders=orders)
        for _ in range(deeds):
            do_or_refuse(day, random_deed(rng, day))
        yield rng, day


def do_or_refuse(day, deed):
    """Do the deed; a refused deed must change nothing."""
    before = state_of(day)
    try:
        day.do(deed)
    except ValueError:
        assert state_of(day) == before
        return False
    return True


class DayCase(GrowsCase):
    def refuses_deed(self, day, error, value, deed):
        """Check that the deed is refused by its method and by `do`, and that nothing is changed."""
        before = state_of(day)
        method = {"speak": day.speak, "hear": day.hear, "watch": day.watch}[deed[0]]
        self.refuses(error, value, method, *deed[1:])
        self.refuses(error, value, day.do, deed)
        self.assertEqual(state_of(day), before)


class TestNew(DayCase):
    def test_a_day_without_deeds(self):
        for rule in (Rule("before"), LOOSE):
            for orders in (None, ORDERS, tuple(ORDERS)):
                day = Day(3, "xy", rule, LOT, orders=orders)
                self.same((day.count, day.start, day.rule, day.lot), (3, "xy", rule, LOT))
                self.same(day.orders, None if orders is None else tuple(ORDERS))
                self.same([station.index for station in day.stations], [0, 1, 2])
                self.assertTrue(all(type(station) is Station for station in day.stations))
                self.assertTrue(all(type(board) is Board for board in day.boards))
                self.same([board.lot for board in day.boards], [LOT if rule.link == "whole" else Lot.of("a", "b")] * 3)
                for station in day.stations:
                    self.same((station.count, station.start, station.rule, station.lot, station.row),
                              (3, "xy", rule, LOT, "xy"))
                self.same(day.deeds(), [])
                self.same(day.told(), [])
        self.same(Day(1, "", Rule(), LOT).orders, None)

    def test_the_orders_are_copied(self):
        orders = list(ORDERS)
        day = Day(1, "ab", Rule(), LOT, orders=orders)
        orders[0] = Lot([])
        self.same(day.orders, tuple(ORDERS))

    def test_errors_in_their_order(self):
        far = Lot.of("x")
        for orders in ([], [far], [LOT] * 2, [far] * 4):
            with self.assertRaises(WrongCount) as caught:
                Day(1, "ab", Rule(), LOT, orders=orders)
            self.assertEqual(caught.exception.value, len(orders))
        with self.assertRaises(NotInLot) as caught:
            Day(1, "a", Rule(), LOT, orders=[Lot.of("b", "bba", "bb"), far])
        self.assertEqual(caught.exception.value, "bb")
        with self.assertRaises(NotInLot) as caught:
            Day(1, "a", Rule(), Lot([]), orders=[Lot([]), Lot.of("ab")])
        self.assertEqual(caught.exception.value, "ab")


class TestDeeds(DayCase):
    def test_speak(self):
        day = Day(2, "b", Rule(), LOT)
        call = day.speak(1, 1, "ab")
        self.same(call, Call(1, (0, 0), "ab", (None, 1)))
        self.same([station.row for station in day.stations], ["b", "bab"])
        self.same(day.do(("speak", 1, 2, "a")), Call(1, (0, 1), "a", ((1, 1), 1)))
        self.same(day.stations[1].row, "baab")
        self.same(day.deeds(), [("speak", 1, 1, "ab"), ("speak", 1, 2, "a")])

    def test_refusals_of_speak_in_their_order(self):
        for orders in (None, ORDERS):
            day = Day(2, "ab", Rule(), LOT, orders=orders)
            day.speak(0, 1, "b")
            for index in (-1, 2):
                self.refuses_deed(day, UnknownStation, index, ("speak", index, 9, "x"))
            for gap in (-1, 4):
                self.refuses_deed(day, GapOutOfRange, gap, ("speak", 0, gap, "x"))
            self.refuses_deed(day, GapOutOfRange, 3, ("speak", 1, 3, "a"))
            self.refuses_deed(day, NotInLot, "x", ("speak", 0, 3, "x"))
            self.refuses_deed(day, NotInLot, "bb", ("speak", 0, 0, "bb"))
        self.refuses_deed(day, RefusedJoin, (0, "b"), ("speak", 0, 0, "b"))
        # Both gaps around the called `b` belong to gap 1 of the opening row.
        self.refuses_deed(day, RefusedJoin, (1, "a"), ("speak", 0, 1, "a"))
        self.refuses_deed(day, RefusedJoin, (2, "a"), ("speak", 0, 2, "a"))
        self.refuses_deed(day, RefusedJoin, (3, "a"), ("speak", 0, 3, "a"))
        self.refuses_deed(day, RefusedJoin, (2, "b"), ("speak", 1, 2, "b"))
        self.same(day.speak(0, 2, "ab").number, 2)

    def test_hear(self):
        day = Day(3, "", Rule(), LOT)
        day.speak(0, 0, "ab")
        day.speak(0, 1, "b")
        day.speak(2, 0, "a")
        self.same(day.hear(1, (2, 1)), 1)
        self.same(day.hear(1, (0, 2)), 0)
        self.same(day.stations[1].waiting, 1)
        self.same(day.hear(1), 0)
        self.same(day.do(("hear", 1, (0, 1), (0, 1), (2, 1))), 2)
        self.same(day.stations[1].counts, (2, 0, 1))
        self.same(day.hear(1, (0, 1), (0, 2)), 0)
        self.same(day.hear(0, (0, 2), (2, 1)), 1)
        self.same(day.stations[0].row, day.stations[1].row)
        self.same(day.deeds()[3:], [("hear", 1, (2, 1)), ("hear", 1, (0, 2)), ("hear", 1),
                                    ("hear", 1, (0, 1), (0, 1), (2, 1)), ("hear", 1, (0, 1), (0, 2)),
                                    ("hear", 0, (0, 2), (2, 1))])

    def test_refusals_of_hear_in_their_order(self):
        for orders in (None, ORDERS):
            day = Day(2, "ab", Rule(), LOT, orders=orders)
            day.speak(0, 0, "a")
            for index in (-1, 2):
                self.refuses_deed(day, UnknownStation, index, ("hear", index, (5, 5)))
            self.refuses_deed(day, UnknownCall, (0, 2), ("hear", 1, (0, 1), (0, 2), (1, 1)))
            self.refuses_deed(day, UnknownCall, (1, 1), ("hear", 1, (1, 1), (0, 2)))
            self.refuses_deed(day, UnknownCall, (0, 0), ("hear", 0, (0, 0)))
            self.same(day.stations[1].row, "ab")

    def test_a_call_that_was_undone_is_no_call_of_the_day(self):
        day = Day(2, "", Rule(), LOT)
        day.speak(0, 0, "a")
        day.undo()
        self.refuses_deed(day, UnknownCall, (0, 1), ("hear", 1, (0, 1)))
        day.speak(0, 0, "b")
        self.same(day.hear(1, (0, 1)), 1)
        self.same(day.stations[1].row, "b")

    def test_watch(self):
        day = Day(2, "b", Rule(), Lot.of("a"))
        self.same(day.watch("x", HAS_A), None)
        self.same(day.do(("watch", "y", Saying.void("ab"))), None)
        self.same([shown(board) for board in day.boards], [{"x": "open", "y": "never"}] * 2)
        self.same(day.deeds(), [("watch", "x", HAS_A), ("watch", "y", Saying.void("ab"))])
        self.same(day.told(), [(0, "y", "never"), (1, "y", "never")])

    def test_refusals_of_watch_in_their_order(self):
        for rule in (Rule(), LOOSE):
            day = Day(2, "bx", rule, Lot.of("a", "cd"), orders=[Lot.of("a")] * 3)
            self.refuses_deed(day, UnknownSign, "b", ("watch", "x", Saying.full("a")))
            self.refuses_deed(day, UnknownSign, "x", ("watch", "x", Saying.full("ab")))
            self.refuses_deed(day, UnknownSign, "a", ("watch", "x", Saying.full("bx")))
            self.refuses_deed(day, UnknownSign, "c", ("watch", "x", Saying.full("abx")))
            self.refuses_deed(day, UnknownSign, "d", ("watch", "x", Saying.full("abcx")))
        day = Day(2, "b", Rule(), Lot.of("a"))
        day.watch("x", HAS_A)
        self.refuses_deed(day, NameTaken, "x", ("watch", "x", Saying.full("z")))
        self.refuses_deed(day, NameTaken, "x", ("watch", "x", HAS_A))

    def test_do_returns_what_its_method_returns(self):
        for rng, day in some_days(450, 8, 6):
            other = Day(day.count, day.start, day.rule, day.lot, orders=day.orders)
            for deed in day.deeds():
                other.do(deed)
            self.assertEqual(state_of(other), state_of(day))
            deed = random_deed(rng, day, 0)
            method = {"speak": other.speak, "hear": other.hear, "watch": other.watch}[deed[0]]
            try:
                wanted = method(*deed[1:])
            except ValueError as error:
                self.refuses(type(error), error.value, day.do, deed)
            else:
                self.same(day.do(deed), wanted)
            self.assertEqual(state_of(other), state_of(day))


class TestOrders(DayCase):
    def plain_orders(self, day, index):
        """The lots at the gaps: what is dealt to the gap of the opening row."""
        dealt = day.orders or [day.lot] * (len(day.start) + 1)
        keys = [key for key, _ in day.stations[index].layout()]
        return [dealt[keys[:gap].count(None)] for gap in range(len(keys) + 1)]

    def test_orders_now(self):
        for _, day in some_days(451, 16):
            for index in range(day.count):
                self.same(day.orders_now(index), self.plain_orders(day, index))
            for index in (-1, day.count):
                self.refuses(UnknownStation, index, day.orders_now, index)

    def test_calls_inside_other_calls(self):
        for rule in all_rules():
            day = Day(2, "ab", rule, LOT, orders=[Lot.of("a"), Lot.of("b", "ab"), Lot([])])
            day.speak(0, 1, "ab")
            day.speak(0, 2, "ab")
            day.speak(0, 0, "a")
            signs = day.stations[0].layout()
            # Under each rule the called groups stand where they were called: before and behind the first `a`.
            self.same([key for key, _ in signs].index(None), 1)
            self.same(day.orders_now(0), [ORDERS[0]] * 2 + [ORDERS[1]] * 5 + [ORDERS[2]])
            self.same(day.orders_now(1), ORDERS)
            self.refuses_deed(day, RefusedJoin, (7, "a"), ("speak", 0, 7, "a"))
            self.refuses_deed(day, RefusedJoin, (3, "a"), ("speak", 0, 3, "a"))
            self.refuses_deed(day, RefusedJoin, (1, "b"), ("speak", 0, 1, "b"))

    def test_without_orders(self):
        day = Day(2, "ab", Rule(), LOT)
        day.speak(1, 1, "ab")
        self.same(day.orders_now(0), [LOT] * 3)
        self.same(day.orders_now(1), [LOT] * 5)
        day.orders_now(1).clear()
        self.same(day.orders_now(1), [LOT] * 5)

    def test_keeps(self):
        answers = set()
        for rng, day in some_days(452, 16):
            for index in range(day.count):
                lots = self.plain_orders(day, index)
                lots = lots if day.rule.link == "whole" else [lot.scattered() for lot in lots]
                for saying in [HAS_A, random_saying(rng, "ab", 3), random_saying(rng, "ab", 4)]:
                    wanted = sure_under(saying, day.stations[index].row, lots)
                    self.same(day.keeps(index, saying), wanted)
                    answers.add(wanted)
        self.assertEqual(answers, {True, False})

    def test_keeps_by_scattered_lots_if_the_link_is_loose(self):
        # The rows that begin with an `a`: by the group `ab` all rows do, by its letters not.
        begins = Saying.read("ab: 1 2 -, 1 1 +, 2 2 -")
        for link, wanted in (("whole", True), ("loose", False)):
            day = Day(1, "ab", Rule("after", "newest", link), Lot.of("ab"), orders=[Lot.of("ab"), Lot([]), Lot([])])
            self.same(day.keeps(0, begins), wanted)

    def test_errors_of_keeps(self):
        day = Day(1, "b", Rule(), Lot.of("a"))
        for index in (-1, 1):
            self.refuses(UnknownStation, index, day.keeps, index, Saying.full("z"))
        self.refuses(UnknownSign, "a", day.keeps, 0, Saying.full("bz"))
        self.refuses(UnknownSign, "b", day.keeps, 0, Saying.full("az"))
        self.same(day.keeps(0, HAS_A), False)


class TestBoards(DayCase):
    def test_boards_show_what_their_stations_tell(self):
        verdicts = set()
        rng = seeded(453)
        for at, rule in enumerate(all_rules() * 2):
            day = Day(rng.randint(1, 3), "ab", rule, LOT, orders=ORDERS if at < 4 else None)
            sayings, told = {}, []
            for _ in range(14):
                deed = random_deed(rng, day)
                before = [shown(board) for board in day.boards]
                if do_or_refuse(day, deed) and deed[0] == "watch":
                    sayings[deed[1]] = deed[2]
                for station, board, shows in zip(day.stations, day.boards, before):
                    self.same(shown(board), {name: station.tell(saying) for name, saying in sayings.items()})
                    told += [(station.index, name, board[name]) for name in board
                             if shows.get(name, "open") == "open" and board[name] != "open"]
                    verdicts.update(shown(board).values())
                self.same(day.told(), told)
        self.assertEqual(verdicts, {"sure", "never", "open"})

    def test_told_in_its_order(self):
        day = Day(2, "", Rule(), Lot.of("a"))
        day.watch("two", HAS_A)
        day.watch("one", ~HAS_A)
        day.speak(1, 0, "a")
        self.same(day.told(), [(1, "two", "sure"), (1, "one", "never")])
        day.hear(0, (1, 1))
        self.same(day.told(), [(1, "two", "sure"), (1, "one", "never"), (0, "two", "sure"), (0, "one", "never")])
        day.told().clear()
        day.deeds().clear()
        self.same((len(day.told()), len(day.deeds())), (4, 4))


class TestUndo(DayCase):
    def test_down_to_the_empty_day(self):
        for rng, day in some_days(454, 16):
            states = []
            other = Day(day.count, day.start, day.rule, day.lot, orders=day.orders)
            for deed in day.deeds():
                states.append(state_of(other))
                other.do(deed)
            for deed, state in list(zip(day.deeds(), states))[::-1]:
                self.same(day.undo(), deed)
                self.assertEqual(state_of(day), state)
            for _ in range(2):
                self.refuses(NothingToUndo, 0, day.undo)
                self.assertEqual(state_of(day), state_of(Day(day.count, day.start, day.rule, day.lot, orders=day.orders)))

    def test_each_kind_of_deed(self):
        day = Day(2, "", Rule(), LOT)
        day.watch("x", HAS_A)
        day.speak(0, 0, "ab")
        day.speak(0, 2, "b")
        day.hear(1, (0, 2))
        before = state_of(day)
        for deed, waiting in ((("hear", 1, (0, 1)), 0), (("speak", 1, 0, "a"), 1), (("watch", "y", HAS_A), 1),
                              (("hear", 1, (0, 2)), 1)):
            day.do(deed)
            self.same(day.stations[1].waiting, waiting)
            self.same(day.undo(), deed)
            self.assertEqual(state_of(day), before)

    def test_the_day_goes_on(self):
        for rng, day in some_days(455, 8):
            for _ in range(3):
                if day.deeds():
                    day.undo()
            again = Day(day.count, day.start, day.rule, day.lot, orders=day.orders)
            for deed in day.deeds():
                again.do(deed)
            for _ in range(6):
                deed = random_deed(rng, day)
                self.assertEqual(do_or_refuse(day, deed), do_or_refuse(again, deed))
            self.assertEqual(state_of(day), state_of(again))


class TestTried(DayCase):
    def test_tried(self):
        seen = set()
        for rng, day in some_days(456, 24):
            before = state_of(day)
            again = Day(day.count, day.start, day.rule, day.lot, orders=day.orders)
            for deed in day.deeds():
                again.do(deed)
            deeds = [random_deed(rng, day, 0.3) for _ in range(rng.randint(0, 4))]
            try:
                for deed in deeds:
                    again.do(deed)
            except ValueError as error:
                self.refuses(type(error), error.value, day.tried, *deeds)
                seen.add("refused")
            else:
                self.same(day.tried(*deeds), [station.row for station in again.stations])
                seen.add(bool(deeds))
            self.assertEqual(state_of(day), before)
        self.assertEqual(seen, {"refused", True, False})

    def test_a_refused_deed(self):
        day = Day(2, "a", Rule(), LOT)
        day.speak(0, 0, "b")
        before = state_of(day)
        self.refuses(UnknownCall, (0, 3), day.tried, ("speak", 0, 0, "b"), ("watch", "x", HAS_A), ("hear", 1, (0, 3)),
                     ("speak", 9, 0, "b"))
        self.assertEqual(state_of(day), before)
        self.same(day.tried(("speak", 1, 1, "b"), ("hear", 0, (1, 1))), ["bab", "ab"])
        self.same(day.tried(), ["ba", "a"])
        self.assertEqual(state_of(day), before)

    def test_the_same_stations_are_read_on(self):
        day = Day(2, "", Rule(), LOT)
        station, board = day.stations[0], day.boards[0]
        day.watch("x", HAS_A)
        day.speak(0, 0, "a")
        self.same((station.row, board["x"]), ("a", "sure"))


class TestSizes(DayCase):
    def test_many_deeds(self):
        rng = seeded(457)
        day = Day(6, "abab", Rule("before", "oldest", "loose"), LOT)
        for name in ("p", "q"):
            day.watch(name, random_saying(rng, "ab", 12))
        for at in range(60):
            day.speak(at % 6, rng.randint(0, len(day.stations[at % 6].row)), rng.choice(["a", "b", "ab"]))
        keys = [call.key for station in day.stations for call in station.heard]
        for index in range(6):
            day.hear(index, *keys)
        self.assertEqual(len({station.row for station in day.stations}), 1)
        self.assertEqual(day.tried(*day.deeds()[2:30]), day.tried(*day.deeds()[2:30]))
        while day.deeds():
            day.undo()
        self.assertEqual(state_of(day), state_of(Day(6, "abab", day.rule, LOT)))


if __name__ == "__main__":
    unittest.main()
