import unittest

from helpers import GrowsCase, random_saying, seeded
from stillgrows.calls import Call
from stillgrows.errors import ClashingCalls, UnknownSign
from stillgrows.lots import Lot
from stillgrows.placing import row_of
from stillgrows.rules import Rule, all_rules
from stillgrows.sayings import Saying
from stillgrows.spreads import plain_spread
from stillgrows.stations import Station
from stillgrows.together import pooled_calls, pooled_row, pooled_verdict
from stillgrows.verdicts import verdict

HAS_A = Saying.read("ab: 1 0 -, 1 1 +")
LOT = Lot.of("ab", "b")


def some_stations(seed, rule, many=10, count=3):
    """Stations of one procession which have heard different calls of it."""
    rng = seeded(seed)
    stations = [Station(index, count, "ab", rule, LOT) for index in range(count)]
    for _ in range(many):
        station = rng.choice(stations)
        station.speak(rng.randint(0, len(station.row)), rng.choice(LOT.groups))
        rng.choice(stations).hear(*rng.choice(stations).heard)
    return stations


class TestPooled(GrowsCase):
    def test_calls_row_and_verdict(self):
        for at, rule in enumerate(all_rules()):
            stations = some_stations(300 + at, rule)
            calls = {call.key: call for station in stations for call in station.heard}
            ordered = sorted(calls.values(), key=lambda call: (call.clock, call.station, call.number))
            self.assertTrue(any(len(station.heard) < len(ordered) for station in stations))
            for turn in (stations, stations[::-1], stations + stations[:1]):
                self.same(pooled_calls(*turn), ordered)
                self.same(pooled_row(*turn), row_of(rule, "ab", ordered))
            lot = LOT if rule.link == "whole" else Lot.of("a", "b")
            for saying in [HAS_A, ~HAS_A] + [random_saying(seeded(320 + k), "ab", 5) for k in range(8)]:
                wanted = verdict(plain_spread(saying, lot), row_of(rule, "ab", ordered))
                self.same(pooled_verdict(saying, *stations), wanted)

    def test_the_verdict_is_that_of_the_judged_lot(self):
        # By the group "ab" the row keeps its first sign `a`, by its letters it does not.
        saying = Saying.read("ab: 1 2 +, 1 1 +, 2 2 -")
        for link, wanted in (("whole", "sure"), ("loose", "open")):
            station = Station(0, 2, "ab", Rule("after", "newest", link), Lot.of("ab"))
            self.same(pooled_verdict(saying, station, Station(1, 2, "ab", station.rule, station.lot)), wanted)

    def test_one_station_alone(self):
        station = some_stations(301, Rule())[0]
        self.same(pooled_calls(station), station.heard)
        self.same(pooled_row(station), station.row)
        self.same(pooled_verdict(HAS_A, station), station.tell(HAS_A))
        fresh = Station(0, 1, "b", Rule(), LOT)
        self.same(pooled_calls(fresh), [])
        self.same(pooled_row(fresh), "b")
        self.same(pooled_verdict(HAS_A, fresh), "open")

    def test_stations_of_one_index_and_calls_that_the_own_station_has_not_heard(self):
        first, second = Station(0, 2, "", Rule(), LOT), Station(1, 2, "", Rule(), LOT)
        one = first.speak(0, "ab")
        two = first.speak(2, "b")
        second.hear(one, two)
        three = second.speak(0, "b")
        again = Station(0, 2, "", Rule(), LOT)
        again.hear(one)
        self.same(pooled_calls(again, Station(0, 2, "", Rule(), LOT)), [one])
        self.same(pooled_calls(again, second), [one, two, three])
        self.same(pooled_calls(Station(1, 2, "", Rule(), LOT), again, first), [one, two])
        self.same(pooled_row(again, second), second.row)
        self.assertEqual((again.heard, second.waiting), ([one], 0))

    def test_waiting_calls_are_not_pooled(self):
        first, second = Station(0, 2, "", Rule(), LOT), Station(1, 2, "", Rule(), LOT)
        first.speak(0, "b")
        late = first.speak(0, "ab")
        second.hear(late)
        self.same(pooled_calls(second), [])
        self.same(pooled_row(second, second), "")

    def test_clashing_calls_with_the_least_key(self):
        stations = [Station(0, 3, "a", Rule(), LOT) for _ in range(3)]
        calls = [Call(0, (0, 0, 0), "ab"), Call(0, (1, 0, 0), "b"), Call(2, (0, 0, 0), "b")]
        others = [calls[0], Call(0, (1, 0, 0), "ab"), Call(2, (0, 0, 0), "ab")]
        stations[0].hear(*calls)
        stations[1].hear(*others)
        stations[2].hear(others[0], others[1])
        for call in (pooled_calls, pooled_row):
            self.refuses(ClashingCalls, (0, 2), call, *stations)
            self.refuses(ClashingCalls, (0, 2), call, stations[1], stations[0])
        stations[2].hear(others[2])
        early = Station(0, 3, "a", Rule(), LOT)
        early.hear(calls[2], calls[0])
        self.refuses(ClashingCalls, (2, 1), pooled_calls, stations[1], early)
        # The clash comes before the unknown sign.
        self.refuses(ClashingCalls, (0, 2), pooled_verdict, Saying.full("x"), *stations)
        self.assertEqual(stations[0].heard, calls[:1] + calls[2:] + calls[1:2])

    def test_unknown_signs(self):
        first, second = Station(0, 2, "xy", Rule(), LOT), Station(1, 2, "xy", Rule(), LOT)
        second.speak(0, "b")
        self.refuses(UnknownSign, "b", pooled_verdict, Saying.full("ax"), first, second)
        self.refuses(UnknownSign, "x", pooled_verdict, HAS_A, first, second)
        self.refuses(UnknownSign, "y", pooled_verdict, Saying.full("abx"), first, second)
        self.same(pooled_verdict(Saying.full("abxy"), first, second), "sure")

    def test_the_rule_and_the_opening_row_are_those_of_the_first(self):
        first, second = Station(0, 2, "a", Rule("before"), Lot.of("b")), Station(1, 2, "ab", Rule(), Lot.of("a", "b"))
        first.speak(1, "b")
        second.speak(0, "b")
        self.same(pooled_row(first, second), row_of(Rule("before"), "a", first.heard + second.heard))
        self.same(pooled_row(second, first), row_of(Rule(), "ab", first.heard + second.heard))
        self.same(pooled_verdict(HAS_A, first, second), "sure")
        self.same(pooled_verdict(~HAS_A, Station(0, 2, "b", Rule(), Lot.of("b")), Station(1, 2, "b", Rule(), LOT)), "sure")


if __name__ == "__main__":
    unittest.main()
