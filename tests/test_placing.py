import unittest

from helpers import GrowsCase, seeded
from stillgrows.calls import Call
from stillgrows.errors import ClashingCalls, GapOutOfRange, MissingAnchor, MixesGroups
from stillgrows.growths import Growth
from stillgrows.placing import anchor_at, growth_from, layout, row_of
from stillgrows.rules import Rule, all_rules

EXAMPLE = ["0 0.0 ab start:1", "1 0.0 cd start:1", "1 1.1 e 0.1:1"]


def read_calls(*texts):
    return [Call.read(text) for text in texts]


def stamp_parts(call):
    return call.clock, call.station, call.number


def plain_after(order, link, start, calls):
    """The layout under the side `after`, written as point [38] tells it."""
    def write(sign):
        return [sign] + hung(sign)

    def hung(anchor):
        there = sorted((call for call in calls if call.anchor == anchor), key=stamp_parts, reverse=order == "newest")
        signs = [(place, at, call.key) for at, call in enumerate(there) for place in range(1, len(call.group) + 1)]
        signs.sort(key=lambda sign: (sign[1], sign[0]) if link == "whole" else (sign[0], sign[1]))
        return [found for place, _, key in signs for found in write((key, place))]

    opening = [found for place in range(1, len(start) + 1) for found in write((None, place))]
    return hung((None, 0)) + opening


def mirrored(call, start, groups):
    """The call whose group is read from its end, at the same sign of a turned word."""
    key, place = call.anchor
    if call.anchor != (None, 0):
        place = len(start if key is None else groups[key]) + 1 - place
    return Call(call.station, call.seen, call.group[::-1], (key, place))


def plain_layout(rule, start, calls):
    """The layout under any rule; a `before` is an `after` in a mirror, as point [39] tells it."""
    if rule.side == "after":
        return plain_after(rule.order, rule.link, start, calls)
    groups = {call.key: call.group for call in calls}
    turned = [mirrored(call, start, groups) for call in calls]
    found = plain_after(rule.order, rule.link, start[::-1], turned)
    return [(key, len(start if key is None else groups[key]) + 1 - place) for key, place in found[::-1]]


def random_calls(rng, start, many, stations=3):
    """Calls that stations make which hear of each other now and then; each call fits what is known."""
    made = []
    counts = [[0] * stations for _ in range(stations)]
    for _ in range(many):
        station = rng.randrange(stations)
        if rng.random() < 0.6:
            other = rng.randrange(stations)
            counts[station] = [max(pair) for pair in zip(counts[station], counts[other])]
        known = [call for call in made if call.number <= counts[station][call.station]]
        anchors = [(None, place) for place in range(len(start) + 1)]
        anchors += [(call.key, place) for call in known for place in range(1, len(call.group) + 1)]
        group = "".join(rng.choice("abc") for _ in range(rng.randint(1, 3)))
        anchor = rng.choice(anchors[:2] if rng.random() < 0.3 else anchors)
        made.append(Call(station, counts[station], group, anchor))
        counts[station][station] += 1
    return made


class TestLayout(GrowsCase):
    def test_the_example(self):
        calls = read_calls(*EXAMPLE)
        for text, row in (
            ("after newest whole", "xcdaeby"), ("after oldest whole", "xaebcdy"), ("after newest loose", "xcaedby"),
            ("before newest whole", "eabcdxy"), ("before newest loose", "eacbdxy"),
        ):
            self.assertEqual(row_of(Rule.read(text), "xy", calls), row)
        self.assertEqual(layout(Rule(), "xy", calls), [
            (None, 1), ((1, 1), 1), ((1, 1), 2), ((0, 1), 1), ((1, 2), 1), ((0, 1), 2), (None, 2),
        ])

    def test_no_calls(self):
        for rule in all_rules():
            self.assertEqual(layout(rule, "ab", []), [(None, 1), (None, 2)])
            self.assertEqual((row_of(rule, "ab", []), row_of(rule, "", []), layout(rule, "", [])), ("ab", "", []))

    def test_the_rim(self):
        calls = [Call(0, (0,), "ab")]
        for rule in all_rules():
            row = "abxy" if rule.side == "after" else "xyab"
            self.assertEqual(row_of(rule, "xy", calls), row)
            self.assertEqual(row_of(rule, "", calls), "ab")

    def test_groups_on_one_anchor_under_both_orders_and_links(self):
        calls = [Call(0, (0,), "ab", (None, 1)), Call(0, (1,), "cde", (None, 1)), Call(0, (2,), "f", (None, 1))]
        for text, row in (
            ("after newest whole", "xfcdeaby"), ("after oldest whole", "xabcdefy"),
            ("after newest loose", "xfcadbey"), ("after oldest loose", "xacfbdey"),
            ("before newest whole", "abcdefxy"), ("before oldest whole", "fcdeabxy"),
            ("before newest loose", "cadbefxy"), ("before oldest loose", "cdafebxy"),
        ):
            self.assertEqual(row_of(Rule.read(text), "xy", calls), row)

    def test_equal_clocks(self):
        calls = [Call(2, (0, 0, 0), "c"), Call(0, (0, 0, 0), "a"), Call(1, (0, 0, 0), "b")]
        self.assertEqual(row_of(Rule(order="newest"), "", calls), "cba")
        self.assertEqual(row_of(Rule(order="oldest"), "", calls), "abc")
        # One station can have two numbers with one clock; the smaller number comes first.
        calls = [Call(0, (1, 0), "b"), Call(0, (0, 1), "a")]
        self.assertEqual(row_of(Rule(order="oldest"), "", calls), "ab")

    def test_random_calls_in_every_order_and_some_twice(self):
        rng = seeded(21)
        for start in ("", "x", "xyz"):
            for many in (1, 2, 3, 5, 9, 25):
                calls = random_calls(rng, start, many)
                for rule in all_rules():
                    wanted = plain_layout(rule, start, calls)
                    self.assertEqual(layout(rule, start, calls), wanted)
                    words = {call.key: call.group for call in calls}
                    words[None] = start
                    row = "".join(words[key][place - 1] for key, place in wanted)
                    mixed = calls + [rng.choice(calls) for _ in range(2)]
                    for _ in range(3):
                        rng.shuffle(mixed)
                        self.assertEqual(layout(rule, start, mixed), wanted)
                        self.assertEqual(row_of(rule, start, mixed), row)

    def test_sixty_calls_one_inside_the_other(self):
        calls = [Call(0, (0,), "ab")]
        calls += [Call(0, (k,), "ab", ((0, k), 1)) for k in range(1, 60)]
        for rule in all_rules(side="after"):
            self.assertEqual(row_of(rule, "", calls[::-1]), "a" * 60 + "b" * 60)

    def test_nothing_is_changed(self):
        calls = read_calls(*EXAMPLE)[::-1]
        found = layout(Rule(), "xy", calls)
        found.clear()
        row_of(Rule(), "xy", calls)
        growth_from(Rule(), "xy", calls, calls)
        self.assertEqual([call.text() for call in calls], EXAMPLE[::-1])
        self.assertEqual(len(layout(Rule(), "xy", calls)), 7)


class TestErrors(GrowsCase):
    def refused_by_all(self, error, key, start, calls):
        for rule in all_rules():
            for more in (calls, calls[::-1]):
                self.refuses(error, key, layout, rule, start, more)
                self.refuses(error, key, row_of, rule, start, more)
                if rule.link == "whole":
                    self.refuses(error, key, growth_from, rule, start, more, [])
                    self.refuses(error, key, growth_from, rule, start, [], more)

    def test_the_least_clashing_key(self):
        calls = [Call(1, (0, 0), "a"), Call(1, (0, 0), "b"), Call(0, (1, 0), "a"), Call(0, (1, 5), "a"),
                 Call(0, (2, 0), "a"), Call(0, (2, 0), "c")]
        self.refused_by_all(ClashingCalls, (0, 2), "", calls)
        self.refused_by_all(ClashingCalls, (0, 3), "", calls[:2] + calls[4:])
        self.refused_by_all(ClashingCalls, (1, 1), "", calls[:3])
        first = Call(1, (0, 0), "a")
        self.refused_by_all(ClashingCalls, (1, 1), "", [first, first, Call(1, (0, 0), "a", (None, 1)), first])

    def test_clashing_before_missing(self):
        calls = [Call(0, (0, 0), "a", (None, 9)), Call(1, (5, 0), "a"), Call(1, (6, 0), "a")]
        self.refused_by_all(ClashingCalls, (1, 1), "x", calls)

    def test_missing_anchors(self):
        for call in (Call(0, (0, 0), "a", (None, 3)), Call(0, (0, 1), "a", ((1, 1), 1))):
            self.refused_by_all(MissingAnchor, (0, 1), "xy", [call])
        there = Call(1, (0, 0), "bc")
        self.assertEqual(row_of(Rule(), "", [there, Call(0, (0, 1), "a", ((1, 1), 2))]), "bca")
        self.refused_by_all(MissingAnchor, (0, 1), "", [there, Call(0, (0, 1), "a", ((1, 1), 3))])

    def test_the_first_missing_one_by_stamps(self):
        late = Call(0, (0, 5), "a", (None, 9))
        soon = Call(1, (3, 0), "b", (None, 9))
        self.refused_by_all(MissingAnchor, (1, 1), "x", [late, soon])
        twin = Call(0, (0, 3), "b", (None, 9))
        self.refused_by_all(MissingAnchor, (0, 1), "x", [soon, twin])

    def test_an_anchor_that_comes_later_by_its_stamp(self):
        anchor = Call(0, (0, 9), "a")
        call = Call(1, (1, 0), "b", ((0, 1), 1))
        self.assertLess(call.stamp, anchor.stamp)
        self.refused_by_all(MissingAnchor, (1, 1), "", [anchor, call])
        # What hangs on a missing call is missing, too, but it comes later.
        self.refused_by_all(MissingAnchor, (1, 1), "", [anchor, call, Call(1, (1, 1), "c", ((1, 1), 1))])


class TestAnchors(GrowsCase):
    def test_anchors_of_gaps(self):
        there = layout(Rule(), "xy", read_calls(*EXAMPLE))
        for rule in all_rules():
            for gap in range(8):
                if rule.side == "after":
                    wanted = there[gap - 1] if gap > 0 else (None, 0)
                else:
                    wanted = there[gap] if gap < 7 else (None, 0)
                self.assertEqual(anchor_at(rule, there, gap), wanted)

    def test_the_empty_layout(self):
        for rule in all_rules():
            self.assertEqual(anchor_at(rule, [], 0), (None, 0))
            for gap in (-1, 1):
                self.refuses(GapOutOfRange, gap, anchor_at, rule, [], gap)

    def test_gaps_that_are_not_there(self):
        for rule in all_rules():
            for gap in (-1, -2, 3, 1000):
                self.refuses(GapOutOfRange, gap, anchor_at, rule, [(None, 1), (None, 2)], gap)


class TestGrowthFrom(GrowsCase):
    def test_ordinary(self):
        calls = read_calls(*EXAMPLE)
        growth = growth_from(Rule(), "xy", calls[:1], calls[1:])
        self.assertEqual(growth.text(), "xaby: 1 cd, 4 e")
        self.assertEqual(growth_from(Rule(), "xy", [], calls).text(), "xy: 1 ab, 1 cd, 4 e")
        self.assertEqual(growth_from(Rule("before"), "xy", [], calls).text(), "xy: 0 ab, 2 cd, 0 e")

    def test_without_new_calls(self):
        calls = read_calls(*EXAMPLE)
        self.assertEqual(growth_from(Rule(), "xy", calls, []), Growth("xcdaeby"))
        self.assertEqual(growth_from(Rule(), "xy", calls, calls[::-1] + calls), Growth("xcdaeby"))
        self.assertEqual(growth_from(Rule(), "xy", [], []), Growth("xy"))

    def test_each_join_adds_the_next_call_by_stamps(self):
        rng = seeded(22)
        for start in ("", "xy"):
            for many in (2, 5, 12, 30):
                made = random_calls(rng, start, many)
                for rule in all_rules(link="whole"):
                    known = [call for call in made if rng.random() < 0.4]
                    # Calls are made after those that they hang on, so a beginning of the list has all anchors.
                    calls = made[:len(known)]
                    more = made[len(known):] + calls[:2]
                    rng.shuffle(more)
                    growth = growth_from(rule, start, calls, more)
                    added = sorted(made[len(known):], key=stamp_parts)
                    self.assertEqual([group for _, group in growth], [call.group for call in added])
                    rows = [row_of(rule, start, calls + added[:k]) for k in range(len(added) + 1)]
                    self.assertEqual(list(growth.stages()), rows)
                    for k, (gap, _) in enumerate(growth):
                        there = layout(rule, start, calls + added[:k + 1])
                        self.assertEqual(gap, there.index((added[k].key, 1)))

    def test_loose_rules_come_first(self):
        clash = [Call(0, (0,), "a"), Call(0, (0,), "b")]
        for rule in all_rules(link="loose"):
            self.refuses(MixesGroups, rule.text(), growth_from, rule, "", clash, clash)
            self.refuses(MixesGroups, rule.text(), growth_from, rule, "xy", [], [])

    def test_errors_of_the_calls_come_before_those_of_both(self):
        missing = Call(1, (0, 0), "c", (None, 5))
        clash = [Call(0, (0, 0), "a"), Call(0, (0, 0), "b")]
        self.refuses(MissingAnchor, (1, 1), growth_from, Rule(), "", [missing], clash)
        self.refuses(ClashingCalls, (0, 1), growth_from, Rule(), "", clash[:1], clash[1:])
        self.refuses(ClashingCalls, (0, 1), growth_from, Rule(), "", clash[:1], clash[1:] + [missing])
        self.refuses(MissingAnchor, (1, 1), growth_from, Rule(), "", clash[:1], [missing])
        # The anchor of a call of the first list may not be in the second one.
        later = Call(1, (1, 0), "c", ((0, 1), 1))
        self.refuses(MissingAnchor, (1, 1), growth_from, Rule(), "", [later], clash[:1])
        self.assertEqual(growth_from(Rule(), "", clash[:1], [later]).text(), "a: 1 c")


if __name__ == "__main__":
    unittest.main()
