import unittest

from helpers import GrowsCase
from stillgrows.calls import Call, in_stamp_order
from stillgrows.errors import InvalidCall, InvalidText
from stillgrows.stamps import Stamp

GOOD = [
    (0, (0,), "a", (None, 0)),
    (0, (0,), "a", (None, 200)),
    (1, (2, 0), "ab", ((0, 2), 1)),
    (1, (2, 0), "ab", ((0, 1), 1000)),
    (5, (0, 1, 2, 3, 4, 5), "abcdef", ((5, 5), 6)),
    (0, (999999999, 0), "z", ((0, 999999999), 999999999)),
]
BAD = [
    # The counts and the station.
    (0, (), "a", (None, 0)),
    (0, (0,) * 7, "a", (None, 0)),
    (0, (-1,), "a", (None, 0)),
    (0, (0, -1), "a", (None, 0)),
    (-1, (0, 0), "a", (None, 0)),
    (2, (0, 0), "a", (None, 0)),
    (999999999, (0, 0), "a", (None, 0)),
    # The group.
    (0, (0,), "", (None, 0)),
    (0, (0,), "A", (None, 0)),
    (0, (0,), "a b", (None, 0)),
    (0, (0,), "~", (None, 0)),
    # The anchor.
    (0, (0,), "a", (None, -1)),
    (0, (2, 1), "a", ((0, 3), 1)),
    (0, (2, 1), "a", ((0, 0), 1)),
    (0, (2, 1), "a", ((0, -1), 1)),
    (0, (2, 1), "a", ((2, 1), 1)),
    (0, (2, 1), "a", ((-1, 1), 1)),
    (0, (2, 1), "a", ((0, 1), 0)),
    (0, (2, 1), "a", ((0, 1), -1)),
    (0, (0, 0), "a", ((1, 1), 1)),
    # Everything at once.
    (-1, (), "", ((9, 9), -9)),
]


class TestCalls(GrowsCase):
    def test_fields(self):
        call = Call(1, [2, 0, 4], "ab", ((2, 3), 1))
        self.assertEqual((call.station, call.seen, call.group, call.anchor), (1, (2, 0, 4), "ab", ((2, 3), 1)))
        self.assertEqual((call.number, call.clock, call.key), (1, 7, (1, 1)))
        self.same(call.seen, (2, 0, 4))
        self.same(call.key, (1, 1))
        first = Call(0, (0,), "c")
        self.assertEqual((first.anchor, first.number, first.clock, first.key), ((None, 0), 1, 1, (0, 1)))
        later = Call(0, (5, 2), "c")
        self.assertEqual((later.number, later.clock, later.key), (6, 8, (0, 6)))

    def test_the_stamp(self):
        call = Call(1, (2, 0, 4), "ab")
        self.assertEqual(call.stamp, Stamp(7, 1, 1))
        self.assertIsNot(call.stamp, call.stamp)
        self.assertIsInstance(vars(Call)["stamp"], property)

    def test_good_and_bad_parts(self):
        for parts in GOOD:
            call = Call(*parts)
            self.assertEqual((call.station, call.seen, call.group, call.anchor), parts)
        for station, seen, group, anchor in BAD:
            self.refuses(InvalidCall, (station, seen, group, anchor), Call, station, seen, group, anchor)
            self.refuses(InvalidCall, (station, seen, group, anchor), Call, station, list(seen), group, anchor)
        self.refuses(InvalidCall, (1, (0,), "a", (None, 0)), Call, 1, [0], "a")

    def test_lists_are_copied(self):
        seen = [1, 0]
        call = Call(1, seen, "a")
        self.assertEqual(seen, [1, 0])
        seen[0] = 9
        self.assertEqual((call.seen, call.clock), ((1, 0), 2))

    def test_equality(self):
        call = Call(1, (2, 0), "ab", ((0, 2), 1))
        self.same(call == Call(1, [2, 0], "ab", ((0, 2), 1)), True)
        for other in (Call(0, (2, 0), "ab", ((0, 2), 1)), Call(1, (2, 1), "ab", ((0, 2), 1)),
                      Call(1, (2, 0), "ac", ((0, 2), 1)), Call(1, (2, 0), "ab", ((0, 2), 2)),
                      Call(1, (2, 0), "ab", ((0, 1), 1)), Call(1, (2, 0), "ab")):
            self.same(call == other, False)
            self.same(call != other, True)
        for other in (call.text(), (1, (2, 0), "ab", ((0, 2), 1)), None, 1, call.stamp):
            self.same(call == other, False)
        self.assertIn("__eq__", vars(Call))

    def test_in_stamp_order(self):
        calls = [Call(1, (1, 0), "a"), Call(1, (0, 0), "b"), Call(0, (0, 0), "c"), Call(0, (1, 0), "d"),
                 Call(0, (0, 1), "e")]
        ordered = in_stamp_order(calls)
        self.assertEqual([call.group for call in ordered], ["c", "b", "e", "d", "a"])
        self.assertEqual([call.group for call in calls], ["a", "b", "c", "d", "e"])


class TestTexts(GrowsCase):
    def test_the_examples(self):
        call = Call.read("1 2.0 ab 0.2:1")
        self.assertEqual(call, Call(1, (2, 0), "ab", ((0, 2), 1)))
        self.assertEqual(call.text(), "1 2.0 ab 0.2:1")
        rim = Call.read("0 0 c start:0")
        self.assertEqual(rim, Call(0, (0,), "c"))
        self.assertEqual(rim.text(), "0 0 c start:0")
        self.assertEqual(Call(0, (0, 0), "c", (None, 12)).text(), "0 0.0 c start:12")

    def test_each_call_is_read_back(self):
        for parts in GOOD:
            call = Call(*parts)
            self.assertEqual(Call.read(call.text()), call)
        self.assertIsInstance(vars(Call)["read"], classmethod)

    def test_texts_that_are_refused(self):
        for text in (
            "", " ", "0 0 c", "0 0 c start:0 ", " 0 0 c start:0", "0  0 c start:0", "0 0 c  start:0", "0 0 c start:0 x",
            "00 0 c start:0", "0 00 c start:0", "0 0 c start:00", "-1 0 c start:0", "0 -1 c start:0", "0 0 c start:-1",
            "1 0 c start:0", "0 0.0.0.0.0.0.0 c start:0", "0 . c start:0", "0 0. c start:0", "0 .0 c start:0",
            "0 0..0 c start:0", "0 0 C start:0", "0 0 - start:0", "0 0 c rim:0", "0 0 c start", "0 0 c start:",
            "0 0 c :0", "0 0 c 0", "0 0 c start:0:0", "0 1 c 0.1", "0 1 c 0.1:", "0 1 c 0.1:0", "0 1 c 0.2:1",
            "0 1 c 0.0:1", "0 1 c 1.1:1", "0 1 c 01:1", "0 1 c 0.01:1", "0 1 c 0.1:01", "0 1 c 0.1.1:1", "0 1 c 0.:1",
            "0 1 c .1:1", "0 1 c 1:1", "0 1000000000 c start:0", "0 0 c start:1000000000", "0 0 c start:0000000000",
            "0 0,0 c start:0", "0 0 c Start:0", "x 0 c start:0", "0 x c start:0", "0 0 c start:x", "0 1 c 0.1:1:1",
        ):
            self.refuses(InvalidText, text, Call.read, text)


if __name__ == "__main__":
    unittest.main()
