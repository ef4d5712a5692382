import itertools
import unittest

from helpers import GrowsCase, random_saying, seeded
from stillgrows.calls import Call
from stillgrows.cuts import (calls_beyond, calls_within, common_counts, is_closed_cut, is_within, joined_counts,
                             known_counts, known_row, known_verdict, news_for, past, settling_counts, shared_counts)
from stillgrows.errors import UnknownSign, UnknownStation, WrongCount
from stillgrows.lots import Lot
from stillgrows.meanings import saying_of_text
from stillgrows.placing import row_of
from stillgrows.rules import Rule, all_rules
from stillgrows.sayings import Saying
from stillgrows.spreads import plain_spread
from stillgrows.stations import Station
from stillgrows.verdicts import verdict

HAS_A = Saying.read("ab: 1 0 -, 1 1 +")


def some_stations(seed, count, many, lot=Lot.of("ab", "b"), start="a", rule=None):
    """Stations that speak and hear of one another now and then."""
    rng = seeded(seed)
    stations = [Station(index, count, start, rule or Rule(), lot) for index in range(count)]
    calls = []
    for _ in range(many):
        station = rng.choice(stations)
        calls.append(station.speak(rng.randint(0, len(station.row)), rng.choice(lot.groups)))
        for listener in rng.sample(stations, rng.randint(0, min(2, count))):
            listener.hear(*rng.choice(stations).heard)
    return stations, calls


def plainly_known(station, path):
    """What a station knows along the path, looked up call by call."""
    path = list(path)
    while path and path[0] == station.index:
        path.pop(0)
    cut = list(station.counts)
    for index in path:
        calls = [call for call in station.heard if call.station == index and call.number <= cut[index]]
        cut = [0] * station.count
        if calls:
            last = max(calls, key=lambda call: call.number)
            cut = list(last.seen)
            cut[index] += 1
    return tuple(cut)


class TestCounts(GrowsCase):
    def test_past(self):
        self.same(past(Call(1, [2, 0, 3], "a")), (2, 1, 3))
        self.same(past(Call(0, (0,), "a")), (1,))

    def test_joined_and_common(self):
        self.same(joined_counts((1, 5, 0), (2, 0, 0), (0, 6, 0)), (2, 6, 0))
        self.same(common_counts((1, 5, 0), (2, 0, 0), (0, 6, 0)), (0, 0, 0))
        for call in (joined_counts, common_counts):
            self.same(call([3, 1]), (3, 1))
            self.same(call((3, 1), (3, 1)), (3, 1))
            self.refuses(WrongCount, 3, call, (1, 2), (1, 1), (1, 2, 3), (1,))
            self.refuses(WrongCount, 1, call, (1, 2), (1,), (1, 2, 3))
            self.refuses(WrongCount, 0, call, (1, 2), ())

    def test_is_within(self):
        self.same(is_within((1, 2), (1, 2)), True)
        self.same(is_within((0, 2), [1, 2]), True)
        self.same(is_within((2, 0), (1, 9)), False)
        self.same(is_within((0, 3), (9, 2)), False)
        self.refuses(WrongCount, 3, is_within, (1, 2), (1, 2, 3))
        self.refuses(WrongCount, 1, is_within, (9, 9), (1,))

    def test_calls_within_and_beyond(self):
        _, calls = some_stations(230, 3, 12)
        self.assertEqual({call.station for call in calls}, {0, 1, 2})
        for counts in itertools.product(range(5), repeat=3):
            within = [call for call in calls if call.number <= counts[call.station]]
            self.same(calls_within(calls, counts), within)
            self.same(calls_beyond(calls, counts), [call for call in calls if call not in within])
        turned = calls[::-1]
        self.assertEqual(calls_within(turned, (9, 9, 9)), turned)
        self.same(calls_within([], (1, 1)), [])
        self.same(calls_beyond((), (1, 1)), [])


class TestClosedCut(GrowsCase):
    def test_against_a_plain_search(self):
        for seed in range(231, 236):
            _, calls = some_stations(seed, 3, 8)
            seen = set()
            for counts in itertools.product(range(5), repeat=3):
                keys = {call.key for call in calls}
                there = all((index, number) in keys for index in range(3) for number in range(1, counts[index] + 1))
                within = all(call.seen[index] <= counts[index] for call in calls
                             if call.number <= counts[call.station] for index in range(3))
                self.same(is_closed_cut(calls, counts), there and within)
                seen.add(there and within)
            self.assertEqual(seen, {True, False})

    def test_a_gap_in_the_numbers(self):
        first, second, third = Call(0, (0, 0), "a"), Call(0, (1, 0), "a"), Call(0, (2, 0), "a")
        self.same(is_closed_cut([first, second, third], (3, 0)), True)
        self.same(is_closed_cut([third, first], (3, 0)), False)
        self.same(is_closed_cut([third, first], (1, 0)), True)
        self.same(is_closed_cut([second, third], (1, 0)), False)
        self.same(is_closed_cut([], (0, 0)), True)
        self.same(is_closed_cut([], (0, 1)), False)
        self.same(is_closed_cut([second, third], (0, 0)), True)

    def test_what_a_call_has_seen(self):
        other, last = Call(1, (0, 0), "a"), Call(0, (0, 1), "a")
        self.same(is_closed_cut([other, last], (1, 0)), False)
        self.same(is_closed_cut([other, last], (1, 1)), True)
        self.same(is_closed_cut([other, last], [0, 1]), True)
        self.same(is_closed_cut([last], (1, 1)), False)


class TestKnown(GrowsCase):
    def test_the_example(self):
        # Station 2 speaks, station 1 hears it and speaks, and station 0 hears of both.
        zero, one, two = [Station(index, 3, "", Rule(), Lot.of("a")) for index in range(3)]
        first = two.speak(0, "a")
        one.hear(first)
        second = one.speak(1, "a")
        third = two.speak(0, "a")
        zero.hear(first, second, third)
        self.same(known_counts(zero, (1, 2)), (0, 0, 1))
        self.same(known_counts(zero, (2,)), (0, 0, 2))
        self.same(known_counts(zero, [1]), (0, 1, 1))
        self.same(known_counts(zero, ()), (0, 1, 2))

    def test_all_paths(self):
        for seed in range(240, 246):
            for count in (1, 2, 3):
                stations, _ = some_stations(seed, count, 10)
                for station in stations:
                    for many in range(4):
                        for path in itertools.product(range(count), repeat=many):
                            self.same(known_counts(station, path), plainly_known(station, path))
                            self.assertEqual(known_counts(station, list(path)), plainly_known(station, path))

    def test_the_own_index(self):
        zero, one = [Station(index, 2, "", Rule(), Lot.of("a")) for index in range(2)]
        first = zero.speak(0, "a")
        one.hear(first)
        zero.hear(one.speak(0, "a"))
        zero.speak(0, "a")
        self.assertEqual(zero.counts, (2, 1))
        for path in ((), (0,), (0, 0), [0, 0, 0]):
            self.assertEqual(known_counts(zero, path), (2, 1))
        for path in ((1,), (0, 1), (0, 0, 1), (1, 1)):
            self.assertEqual(known_counts(zero, path), (1, 1))
        # Behind another index the own one is not passed over.
        self.assertEqual(known_counts(zero, (1, 0)), (1, 0))
        self.assertEqual(known_counts(zero, (0, 1, 0)), (1, 0))
        self.assertEqual(known_counts(zero, (1, 0, 0)), (1, 0))
        self.assertEqual(known_counts(zero, (1, 0, 1)), (0, 0))
        self.assertEqual(known_counts(zero, (1, 0, 1, 0)), (0, 0))

    def test_the_first_index_out_of_range(self):
        station = Station(1, 3, "", Rule(), Lot.of("a"))
        saying = Saying.full("b")
        for path, index in (((0, 3, -1), 3), ([-1, 9], -1), ((1, 1, 7), 7)):
            self.refuses(UnknownStation, index, known_counts, station, path)
            self.refuses(UnknownStation, index, known_row, station, path)
            self.refuses(UnknownStation, index, known_verdict, station, path, saying)

    def test_rows_and_verdicts(self):
        rng = seeded(246)
        told = set()
        for rule in all_rules():
            stations, _ = some_stations(247, 3, 9, rule=rule)
            for station in stations:
                for path in ((), (0,), (1,), (2, 1), (0, 2, 0)):
                    counts = known_counts(station, path)
                    calls = [call for call in station.heard if call.number <= counts[call.station]]
                    row = row_of(rule, "a", calls)
                    self.same(known_row(station, path), row)
                    saying = random_saying(rng, "ab", rng.randint(2, 3))
                    found = known_verdict(station, path, saying)
                    told.add(found)
                    self.same(found, verdict(plain_spread(saying, station.judged_lot()), row))
        self.assertEqual(told, {"sure", "never", "open"})

    def test_what_is_known_to_be_settled_is_settled(self):
        stations, _ = some_stations(248, 3, 12)
        for station in stations:
            for path in itertools.product(range(3), repeat=2):
                for text in ("<bb>", "<ba>", "a.*", "~<aa>"):
                    saying = saying_of_text(text, "ab")
                    known = known_verdict(station, path, saying)
                    if known != "open":
                        self.assertEqual(station.tell(saying), known)

    def test_unknown_signs(self):
        station = Station(0, 2, "ay", Rule(), Lot.of("b", "dc"))
        self.refuses(UnknownSign, "d", known_verdict, station, (1,), HAS_A)
        self.refuses(UnknownSign, "y", known_verdict, Station(0, 2, "ay", Rule(), Lot.of("b")), (1,), HAS_A)


class TestShared(GrowsCase):
    def test_all_depths(self):
        for seed in (250, 251, 252):
            for count in (1, 2, 3, 4):
                stations, _ = some_stations(seed, count, 16)
                for station in stations:
                    for depth in range(5):
                        found = [known_counts(station, path) for path in itertools.product(range(count), repeat=depth)]
                        self.same(shared_counts(station, depth), tuple(map(min, zip(*found))))
                    self.assertEqual(shared_counts(station, 0), station.counts)

    def test_six_stations(self):
        stations, calls = some_stations(253, 6, 20)
        for station in stations:
            station.hear(*calls)
        more = []
        for station in stations:
            more.append(station.speak(0, "b"))
            for other in stations:
                other.hear(*more)
        found = [shared_counts(stations[5], depth) for depth in range(5)]
        self.assertEqual(found[1], tuple(map(min, zip(*[known_counts(stations[5], (index,)) for index in range(6)]))))
        self.assertTrue(all(is_within(found[depth + 1], found[depth]) for depth in range(4)))


class TestSettling(GrowsCase):
    def plain(self, station, saying):
        spread = plain_spread(saying, station.judged_lot())
        told = verdict(spread, station.row)
        if told == "open":
            return None
        left = list(station.heard)
        for call in sorted(station.heard, key=lambda one: (one.clock, one.station, one.number), reverse=True):
            if any(other.seen[call.station] >= call.number for other in left):
                continue
            rest = [other for other in left if other is not call and other.key != call.key]
            if verdict(spread, row_of(station.rule, station.start, rest)) == told:
                left = rest
        return tuple(len([call for call in left if call.station == index]) for index in range(station.count))

    def test_against_a_plain_search(self):
        rng = seeded(260)
        seen = set()
        for rule in all_rules():
            for seed in range(261, 264):
                stations, _ = some_stations(seed, 3, 8, rule=rule)
                for station in stations:
                    for saying in (saying_of_text("<bb>", "ab"), saying_of_text("~<bbb>", "ab"),
                                   random_saying(rng, "ab", 3)):
                        found = settling_counts(station, saying)
                        self.same(found, self.plain(station, saying))
                        seen.add(None if found is None else sum(found))
                        if found is not None:
                            self.assertTrue(is_closed_cut(station.heard, found))
        self.assertLessEqual({None, 0, 1, 2}, seen)

    def test_an_open_a_sure_and_a_never_row(self):
        station = Station(0, 2, "", Rule(), Lot.of("a", "b"))
        self.same(settling_counts(station, HAS_A), None)
        station.speak(0, "b")
        self.same(settling_counts(station, HAS_A), None)
        station.speak(0, "a")
        station.speak(0, "b")
        # The call of the `a` has seen the first one, so both are needed.
        self.same(settling_counts(station, HAS_A), (2, 0))
        self.same(settling_counts(station, ~HAS_A), (2, 0))
        self.same(settling_counts(station, Saying.full("ab")), (0, 0))
        self.same(settling_counts(station, Saying.void("ab")), (0, 0))

    def test_calls_that_have_not_seen_each_other(self):
        station = Station(0, 3, "", Rule(), Lot.of("a", "b"))
        station.hear(Call(1, (0, 0, 0), "a"), Call(2, (0, 0, 0), "a"), Call(0, (0, 0, 0), "b"))
        # The greatest stamp is dropped first.
        self.same(settling_counts(station, HAS_A), (0, 1, 0))

    def test_unknown_signs(self):
        self.refuses(UnknownSign, "d", settling_counts, Station(0, 1, "xa", Rule(), Lot.of("b", "dc")), HAS_A)
        self.refuses(UnknownSign, "x", settling_counts, Station(0, 1, "axay", Rule(), Lot.of("b")), HAS_A)


class TestNews(GrowsCase):
    def test_against_the_counts(self):
        for seed in (270, 271):
            stations, _ = some_stations(seed, 3, 12)
            for station in stations:
                for index in range(3):
                    counts = plainly_known(station, (index,))
                    self.same(news_for(station, index),
                              [call for call in station.heard if call.number > counts[call.station]])
                self.same(news_for(station, station.index), [])

    def test_unknown_stations(self):
        station = Station(0, 2, "", Rule(), Lot.of("a"))
        for index in (-1, 2, 7):
            self.refuses(UnknownStation, index, news_for, station, index)


if __name__ == "__main__":
    unittest.main()
