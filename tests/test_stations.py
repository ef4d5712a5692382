import itertools
import unittest

from helpers import GrowsCase, grown, random_saying, seeded
from stillgrows.calls import Call
from stillgrows.derive import comes
from stillgrows.errors import ClashingCalls, GapOutOfRange, NotInLot, UnknownSign, UnknownStation, WrongCount
from stillgrows.lots import Lot
from stillgrows.placing import anchor_at, layout, row_of
from stillgrows.rules import Rule, all_rules
from stillgrows.sayings import Saying
from stillgrows.spreads import plain_spread
from stillgrows.stations import Station
from stillgrows.verdicts import verdict

LOT = Lot.of("ab", "cd", "e")
HAS_A = Saying.read("ab: 1 0 -, 1 1 +")


def some_calls(seed, count, many, lot=LOT, start="xy"):
    """Calls that stations make which hear of one another now and then; with one station they are all heard."""
    rng = seeded(seed)
    stations = [Station(index, count, start, Rule(), lot) for index in range(count)]
    calls = []
    for _ in range(many):
        station = rng.choice(stations)
        calls.append(station.speak(rng.randint(0, len(station.row)), rng.choice(lot.groups)))
        listener = rng.choice(stations)
        listener.hear(*rng.sample(calls, rng.randint(0, len(calls))))
    return calls


def state_of(station):
    return station.counts, station.heard, station.waiting, station.row, station.layout()


def plainly_heard(calls, count, start):
    """The calls that can be heard, taken one by one."""
    heard = {}
    for _ in calls:
        for call in calls:
            counts = [len([one for one in heard.values() if one.station == index]) for index in range(count)]
            key, place = call.anchor
            there = place <= (len(start) if key is None else len(heard[key].group) if key in heard else -1)
            if there and all(number <= known for number, known in zip(call.seen, counts)):
                heard[call.key] = call
    return heard


class TestNew(GrowsCase):
    def test_a_station_that_has_heard_nothing(self):
        station = Station(1, 3, "xy", Rule("before"), LOT)
        self.assertEqual((station.index, station.count, station.start, station.rule, station.lot),
                         (1, 3, "xy", Rule("before"), LOT))
        self.same(station.counts, (0, 0, 0))
        self.same(station.heard, [])
        self.same(station.waiting, 0)
        self.same(station.row, "xy")
        self.same(station.layout(), [(None, 1), (None, 2)])
        self.same(Station(0, 1, "", Rule(), Lot([])).layout(), [])

    def test_unknown_stations(self):
        for index, count in ((-1, 2), (2, 2), (6, 6), (1, 1)):
            self.refuses(UnknownStation, index, Station, index, count, "", Rule(), LOT)

    def test_what_is_returned_may_be_changed(self):
        station = Station(0, 1, "x", Rule(), LOT)
        station.speak(0, "ab")
        station.heard.clear()
        station.layout().clear()
        self.assertEqual((len(station.heard), len(station.layout())), (1, 3))


class TestHear(GrowsCase):
    def test_calls_heard_in_every_order(self):
        calls = some_calls(210, 3, 5)
        orders = set()
        for rule in (Rule(), Rule("before", "oldest", "loose")):
            for order in itertools.permutations(calls):
                station = Station(0, 3, "xy", rule, LOT)
                newly = [station.hear(call) for call in order]
                orders.add(tuple(newly))
                self.assertEqual((sum(newly), station.waiting), (5, 0))
                self.assertEqual(station.row, row_of(rule, "xy", calls))
                self.assertEqual(station.layout(), layout(rule, "xy", calls))
                self.assertEqual([call.key for call in station.heard],
                                 [call.key for call in sorted(calls, key=lambda one: (one.clock, one.key))])
        self.assertGreater(len(orders), 3)

    def test_counts_and_waiting_at_each_moment(self):
        rng = seeded(211)
        for seed in range(220, 235):
            calls = some_calls(seed, 3, 9)
            station = Station(2, 3, "xy", Rule(), LOT)
            handed = []
            for call in rng.sample(calls, len(calls)):
                before = len(station.heard)
                newly = station.hear(call)
                handed.append(call)
                heard = plainly_heard(handed, 3, "xy")
                self.same(newly, len(heard) - before)
                self.assertEqual({call.key for call in station.heard}, set(heard))
                self.same(station.waiting, len(handed) - len(heard))
                self.same(station.counts, tuple(len([key for key in heard if key[0] == index]) for index in range(3)))
                self.same(station.row, row_of(Rule(), "xy", list(heard.values())))

    def test_several_calls_at_once(self):
        calls = some_calls(212, 3, 12)
        station = Station(0, 3, "xy", Rule(), LOT)
        self.same(station.hear(), 0)
        self.same(station.hear(*calls[6:]), len(plainly_heard(calls[6:], 3, "xy")))
        self.same(station.hear(*calls[:6]), 12 - len(plainly_heard(calls[6:], 3, "xy")))
        self.assertEqual(station.waiting, 0)

    def test_calls_heard_twice(self):
        calls = some_calls(213, 2, 6)
        station = Station(0, 2, "xy", Rule(), LOT)
        last = calls[-1]
        newly = station.hear(last, last)
        self.assertEqual(newly + station.waiting, 1)
        before = state_of(station)
        self.same(station.hear(last), 0)
        self.assertEqual(state_of(station), before)
        station.hear(*calls)
        before = state_of(station)
        self.same(station.hear(*calls[::-1], *calls), 0)
        self.assertEqual(state_of(station), before)
        again = Call(last.station, list(last.seen), last.group, last.anchor)
        self.same(station.hear(again), 0)

    def test_calls_before_those_that_they_have_seen(self):
        first = Call(0, (0, 0), "ab", (None, 1))
        second = Call(1, (1, 0), "e", ((0, 1), 1))
        third = Call(0, (1, 1), "cd")
        station = Station(1, 2, "xy", Rule(), LOT)
        self.assertEqual([station.hear(third), station.waiting, station.row], [0, 1, "xy"])
        self.assertEqual([station.hear(second), station.waiting, station.counts], [0, 2, (0, 0)])
        self.assertEqual([station.hear(first), station.waiting, station.counts], [3, 0, (2, 1)])
        self.assertEqual(station.row, "cdxaeby")

    def test_a_place_that_is_too_great_waits_for_ever(self):
        for late in (Call(0, (0, 0), "ab", (None, 3)), Call(0, (0, 1), "ab", ((1, 1), 2))):
            station = Station(0, 2, "xy", Rule(), LOT)
            station.hear(late, Call(1, (0, 0), "e"))
            self.assertEqual((station.waiting, station.counts, station.row), (1, (0, 1), "exy"))
            # What has seen it waits too, and what has not is heard.
            more = Call(1, (late.number, 1), "cd"), Call(1, (0, 1), "e")
            self.same(station.hear(more[0]), 0)
            self.assertEqual(station.waiting, 2)
            self.refuses(ClashingCalls, (1, 2), station.hear, more[1])
        station = Station(0, 2, "xy", Rule(), LOT)
        self.same(station.hear(Call(0, (0, 0), "ab", (None, 2)), Call(1, (1, 0), "e", ((0, 1), 2))), 2)


class TestHearErrors(GrowsCase):
    def setUp(self):
        self.first = Call(0, (0, 0), "ab")
        self.late = Call(1, (0, 1), "cd")
        self.station = Station(0, 2, "xy", Rule(), LOT)
        self.station.hear(self.first, self.late)
        self.assertEqual((self.station.counts, self.station.waiting), ((1, 0), 1))

    def stays(self, error, value, *calls):
        before = state_of(self.station)
        self.refuses(error, value, self.station.hear, *calls)
        self.assertEqual(state_of(self.station), before)

    def test_each_error(self):
        good = Call(1, (0, 0), "e")
        self.stays(WrongCount, 3, good, Call(0, (0, 0, 0), "ab"))
        self.stays(WrongCount, 1, good, Call(0, (0,), "ab"))
        self.stays(NotInLot, "ba", good, Call(0, (1, 0), "ba"))
        self.stays(ClashingCalls, (0, 1), good, Call(0, (0, 0), "cd"))
        self.stays(ClashingCalls, (1, 2), good, Call(1, (1, 1), "cd"))
        self.stays(ClashingCalls, (1, 1), good, Call(1, (0, 0), "cd"))
        self.stays(ClashingCalls, (0, 1), Call(0, (0, 0), "ab", (None, 1)))
        self.assertEqual(self.station.hear(good), 2)

    def test_which_error_comes_first(self):
        self.stays(WrongCount, 3, Call(0, (0, 0, 0), "ba"), Call(0, (0, 0), "zz"))
        self.stays(NotInLot, "zz", Call(0, (0, 0), "zz"), Call(0, (0, 0, 0), "ab"))
        self.stays(ClashingCalls, (0, 1), Call(0, (0, 0), "cd"), Call(0, (0, 0, 0), "ba"))
        self.stays(NotInLot, "b", Call(1, (0, 1), "b"))
        self.stays(NotInLot, "zz", self.first, self.late, Call(1, (0, 0), "zz"))


class TestSpeak(GrowsCase):
    def test_at_every_gap_under_the_eight_rules(self):
        calls = some_calls(214, 2, 5)
        for rule in all_rules():
            for gap in range(len(row_of(rule, "xy", calls)) + 1):
                station = Station(1, 2, "xy", rule, LOT)
                station.hear(*calls)
                counts, signs = station.counts, station.layout()
                call = station.speak(gap, "cd")
                self.same(call, Call(1, counts, "cd", anchor_at(rule, signs, gap)))
                self.assertEqual(station.counts, (counts[0], counts[1] + 1))
                self.assertIn(call, station.heard)
                self.assertEqual(station.row, row_of(rule, "xy", calls + [call]))
                if rule.order == "newest" and rule.link == "whole":
                    self.assertEqual(station.row[gap:gap + 2], "cd")

    def test_one_call_after_another(self):
        station = Station(0, 2, "", Rule(), LOT)
        found = [station.speak(0, "ab"), station.speak(1, "cd"), station.speak(4, "e")]
        self.assertEqual(station.row, "acdbe")
        self.assertEqual([call.text() for call in found], ["0 0.0 ab start:0", "0 1.0 cd 0.1:1", "0 2.0 e 0.1:2"])
        other = Station(1, 2, "", Rule(), LOT)
        self.assertEqual([other.hear(found[2]), other.hear(found[1]), other.hear(found[0])], [0, 0, 3])
        self.assertEqual(other.row, station.row)

    def test_errors_in_their_order(self):
        station = Station(0, 2, "xy", Rule(), LOT)
        station.hear(Call(1, (1, 0), "cd"))
        before = state_of(station)
        self.refuses(GapOutOfRange, 3, station.speak, 3, "zz")
        self.refuses(GapOutOfRange, -1, station.speak, -1, "ab")
        self.refuses(NotInLot, "zz", station.speak, 2, "zz")
        self.refuses(NotInLot, "", station.speak, 0, "")
        self.assertEqual(state_of(station), before)
        self.assertEqual(station.speak(0, "ab").key, (0, 1))

    def test_refused_while_a_call_with_its_key_waits(self):
        station = Station(0, 2, "xy", Rule(), LOT)
        waiting = Call(0, (0, 1), "cd")
        station.hear(waiting)
        before = state_of(station)
        # The new call would be the first one of the station, and so is the waiting one.
        self.assertEqual(waiting.key, (0, 1))
        self.refuses(ClashingCalls, (0, 1), station.speak, 0, "ab")
        self.refuses(NotInLot, "zz", station.speak, 0, "zz")
        self.refuses(GapOutOfRange, 9, station.speak, 9, "ab")
        self.assertEqual(state_of(station), before)
        station.hear(Call(1, (0, 0), "e"))
        self.assertEqual(station.speak(0, "ab").key, (0, 2))

    def test_a_new_call_can_make_waiting_ones_ready(self):
        station = Station(0, 2, "xy", Rule(), LOT)
        station.hear(Call(1, (1, 0), "e"))
        self.assertEqual(station.waiting, 1)
        station.speak(1, "ab")
        self.assertEqual((station.waiting, station.counts, station.row), (0, (1, 1), "exaby"))


class TestTell(GrowsCase):
    def test_the_judged_lot(self):
        for rule in all_rules():
            station = Station(0, 2, "xy", rule, LOT)
            wanted = LOT if rule.link == "whole" else Lot.of("a", "b", "c", "d", "e")
            self.same(station.judged_lot(), wanted)

    def test_the_row_grows_to_later_rows_by_the_judged_lot(self):
        rng = seeded(215)
        calls = some_calls(216, 3, 7, Lot.of("ab", "b"), "a")
        for rule in all_rules():
            for _ in range(6):
                station = Station(0, 3, "a", rule, Lot.of("ab", "b"))
                station.hear(*rng.sample(calls, 4))
                early = station.row
                station.hear(*calls)
                self.assertTrue(comes(early, station.row, station.judged_lot()))

    def test_tell(self):
        rng = seeded(217)
        lot = Lot.of("ab", "b")
        told = set()
        for rule in all_rules():
            station = Station(0, 2, "ba", rule, lot)
            for _ in range(3):
                station.speak(rng.randint(0, len(station.row)), rng.choice(lot.groups))
                for _ in range(6):
                    saying = random_saying(rng, "ab", rng.randint(2, 3))
                    found = station.tell(saying)
                    told.add(found)
                    self.same(found, verdict(plain_spread(saying, station.judged_lot()), station.row))
        self.assertEqual(told, {"sure", "never", "open"})

    def test_the_link_matters(self):
        # Whole groups `ab` leave no `b` before the first `a`; single signs may.
        saying = Saying.read("ab: 1 2 +, 1 1 +, 2 2 -")
        self.assertEqual(Station(0, 1, "", Rule(), Lot.of("ab")).tell(saying), "sure")
        self.assertEqual(Station(0, 1, "", Rule(link="loose"), Lot.of("ab")).tell(saying), "open")

    def test_a_verdict_stays_true_for_later_rows(self):
        lot = Lot.of("ab")
        saying = Saying.read("ab: 1 0 -, 1 1 +")
        station = Station(0, 1, "", Rule(), lot)
        self.assertEqual(station.tell(saying), "open")
        station.speak(0, "ab")
        self.assertEqual(station.tell(saying), "sure")
        for row in grown(station.row, lot.groups, 8):
            self.assertIn(row, saying)

    def test_unknown_signs(self):
        self.refuses(UnknownSign, "d", Station(0, 1, "xa", Rule(), Lot.of("b", "dc")).tell, HAS_A)
        self.refuses(UnknownSign, "c", Station(0, 1, "xa", Rule(link="loose"), Lot.of("b", "dc")).tell, HAS_A)
        self.refuses(UnknownSign, "x", Station(0, 1, "axay", Rule(), Lot.of("b")).tell, HAS_A)

    def test_the_greatest_sizes(self):
        lot = Lot.of("aaaaaa", "bcdabc", "dddddd", "abcdab", "c", "cc", "ccc", "dc")
        rng = seeded(218)
        stations = [Station(index, 6, "abcd" * 20, Rule("before", "oldest", "loose"), lot) for index in range(6)]
        calls = []
        for at in range(60):
            station = stations[at % 6]
            station.hear(*rng.sample(calls, len(calls)))
            calls.append(station.speak(rng.randint(0, len(station.row)), lot.groups[at % 8 if at < 20 else 0]))
        late = Station(3, 6, "abcd" * 20, Rule("before", "oldest", "loose"), lot)
        self.assertEqual(sum(late.hear(call) for call in calls[::-1]), 60)
        self.assertEqual(late.counts, (10,) * 6)
        saying = random_saying(rng, "abcd", 40)
        self.assertIn(late.tell(saying), ("sure", "never", "open"))


if __name__ == "__main__":
    unittest.main()
