import unittest

from helpers import GrowsCase, all_rows, joined, permuting, random_saying, rows_in, seeded, within_steps, without_one
from stillgrows.errors import GapOutOfRange, InvalidGroup, NotThere, UnknownSign
from stillgrows.leavings import joins_first, play, story_out, verdict_through, within_leavings
from stillgrows.lots import Lot
from stillgrows.sayings import Saying

HAS_A = Saying.read("ab: 1 0 -, 1 1 +")
LOTS = ([], ["a"], ["ab"], ["aab"], ["a", "b"], ["ab", "ba"], ["aa", "b"], ["abab"], ["a", "bab"], ["abba"])


def random_story(rng, row, many, groups=("a", "b", "ab", "bab")):
    """A story that can be done from the row."""
    story = []
    for _ in range(many):
        there = [(gap, group) for group in groups for gap in range(len(row)) if row.startswith(group, gap)]
        if there and rng.random() < 0.5:
            gap, group = rng.choice(there)
            story.append(("leave", gap, group))
            row = row[:gap] + row[gap + len(group):]
        else:
            gap, group = rng.randint(0, len(row)), rng.choice(groups)
            story.append(("join", gap, group))
            row = row[:gap] + group + row[gap:]
    return story


def exchanged_story(rng, story):
    """The story of point [101], made by exchanging steps in any order."""
    story = list(story)
    while True:
        spots = [k for k in range(len(story) - 1) if story[k][0] == "leave" and story[k + 1][0] == "join"]
        if not spots:
            return story
        k = rng.choice(spots)
        (_, a, g), (_, c, b) = story[k], story[k + 1]
        if c <= a:
            story[k:k + 2] = [("join", c, b), ("leave", a + len(b), g)]
        else:
            story[k:k + 2] = [("join", c + len(g), b), ("leave", a, g)]


def some_pairs(seed, most):
    rng = seeded(seed)
    for groups in LOTS:
        for _ in range(3):
            yield random_saying(rng, "ab", 2 if most == 2 else 3), Lot(groups)


class TestStories(GrowsCase):
    def test_play(self):
        self.same(play("ab", []), "ab")
        self.same(play("ab", [("leave", 0, "a"), ("join", 1, "c")]), "bc")
        self.same(play("", (("join", 0, "xyz"), ("leave", 1, "yz"), ("join", 1, "q"))), "xq")
        self.same(play("abcab", [("leave", 3, "ab"), ("leave", 0, "ab"), ("leave", 0, "c")]), "")
        story = [("join", 0, "a")]
        play("b", story)
        self.assertEqual(story, [("join", 0, "a")])

    def test_errors_in_their_order(self):
        for call in (play, joins_first):
            self.refuses(InvalidGroup, "", call, "ab", [("join", 9, "")])
            self.refuses(InvalidGroup, "A", call, "ab", [("leave", 9, "A")])
            self.refuses(InvalidGroup, "", call, "ab", [("leave", 0, "")])
            self.refuses(GapOutOfRange, 3, call, "ab", [("join", 3, "a")])
            self.refuses(GapOutOfRange, -1, call, "ab", [("join", 2, "c"), ("join", -1, "a")])
            self.refuses(NotThere, (1, "a"), call, "ab", [("leave", 1, "a")])
            self.refuses(NotThere, (2, "b"), call, "ab", [("leave", 2, "b")])
            self.refuses(NotThere, (-1, "b"), call, "ab", [("leave", -1, "b")])
            self.refuses(NotThere, (1, "bb"), call, "ab", [("leave", 1, "bb")])
            # The row at that time counts, and the first step that cannot be done.
            self.refuses(GapOutOfRange, 2, call, "ab", [("leave", 0, "a"), ("join", 2, "c"), ("leave", 7, "")])
            self.refuses(NotThere, (0, "a"), call, "ab", [("leave", 0, "a"), ("leave", 0, "a"), ("join", 0, "")])

    def test_joins_first(self):
        self.same(joins_first("ab", [("leave", 0, "a"), ("join", 1, "c")]), [("join", 2, "c"), ("leave", 0, "a")])
        self.same(joins_first("ab", [("leave", 1, "b"), ("join", 1, "c")]), [("join", 1, "c"), ("leave", 2, "b")])
        self.same(joins_first("ab", ()), [])
        joins = [("join", 1, "b"), ("join", 0, "a")]
        self.same(joins_first("ab", joins), joins)
        left = [("leave", 1, "b"), ("leave", 0, "a")]
        self.same(joins_first("ab", tuple(left)), left)

    def test_joins_first_whichever_place_is_taken_first(self):
        rng = seeded(380)
        for _ in range(300):
            row = "".join(rng.choice("ab") for _ in range(rng.randint(0, 8)))
            story = random_story(rng, row, rng.randint(0, 9))
            kept = list(story)
            found = joins_first(row, story)
            self.same(found, exchanged_story(rng, story))
            self.assertEqual(story, kept)
            self.assertEqual(play(row, found), play(row, story))
            deeds = [deed for deed, _, _ in found]
            self.assertEqual(deeds, sorted(deeds))
            self.assertEqual(sorted(group for _, _, group in found), sorted(group for _, _, group in story))

    def test_60_steps(self):
        rng = seeded(381)
        story = random_story(rng, "abba", 60)
        self.assertEqual(play("abba", joins_first("abba", story)), play("abba", story))


class TestThrough(GrowsCase):
    def test_within_leavings(self):
        for most in (0, 1, 2):
            for saying, lot in some_pairs(382 + most, most):
                answer = within_leavings(saying, lot, most=most)
                wanted = [row for row in all_rows("ab", 6) if any(
                    other in saying for other in within_steps(row, lambda one: without_one(one, lot.groups), most))]
                self.assertEqual(rows_in(answer, 6), wanted, (saying.text(), lot.text()))
                if most == 1:
                    self.assertEqual(within_leavings(saying, lot), answer)
        self.assertEqual(within_leavings(HAS_A, Lot.of("b"), most=0), HAS_A)

    def test_leavings_that_cut_across_others(self):
        # One `ab` stands in the other one, or behind it, or the signs of both take turns.
        empty = Saying.single("ab", "")
        self.assertEqual(rows_in(within_leavings(empty, Lot.of("ab"), most=2), 5), ["", "ab", "aabb", "abab"])
        self.assertEqual(rows_in(within_leavings(empty, Lot.of("ab"), most=1), 5), ["", "ab"])
        self.assertEqual(rows_in(within_leavings(empty, Lot.of("a", "bb"), most=2), 5),
                         ["", "a", "aa", "bb", "abb", "bab", "bba", "bbbb"])

    def plain_verdict(self, saying, lot, row, most, longest):
        """The rows of allowed stories, with rows of at most so many signs, that are in the saying and that are not."""
        found = set()
        states = {(row, 0)}
        while states - found:
            found |= states
            after = {(other, many) for one, many in states for other in joined(one, lot.groups)}
            after |= {(other, many + 1) for one, many in states for other in without_one(one, lot.groups)}
            states = {(other, many) for other, many in after if len(other) <= longest and many <= most} - found
        marks = {other in saying for other, _ in found}
        return "open" if len(marks) == 2 else "sure" if True in marks else "never"

    def test_verdict_through(self):
        seen = set()
        for most in (0, 1, 2):
            for saying, lot in some_pairs(385 + most, most):
                for row in ("", "a", "ab", "bba"):
                    told = verdict_through(saying, lot, row, most=most)
                    plain = self.plain_verdict(saying, lot, row, most, len(row) + 5 if len(lot) < 2 else 6)
                    seen.add(told)
                    if plain == "open" or saying.size <= 2:
                        self.same(told, plain)
                    else:
                        self.assertIn(told, (plain, "open"))
                    if most == 1:
                        self.same(verdict_through(saying, lot, row), told)
        self.assertEqual(seen, {"sure", "never", "open"})

    def test_story_out(self):
        kinds = set()
        for most in (0, 1, 2):
            for saying, lot in some_pairs(388 + most, most):
                for row in ("", "a", "ab", "bba"):
                    story = story_out(saying, lot, row, most=most)
                    self.assertEqual(story is None, verdict_through(saying, lot, row, most=most) == "sure")
                    if story is not None:
                        kinds.add(self.check_story(saying, lot, row, most, story))
                    if most == 1:
                        self.assertEqual(story_out(saying, lot, row), story)
        # Stories without any step, of joins alone, of leavings alone, and of both.
        self.assertLessEqual({(0, 0), (1, 0), (0, 1), (0, 2), (1, 1)}, kinds)

    def check_story(self, saying, lot, row, most, story):
        """Check an allowed story out of the saying; return how many joins and leavings it has."""
        self.assertIs(type(story), list)
        deeds = [deed for deed, _, _ in story]
        self.assertEqual(deeds, sorted(deeds))
        self.assertTrue(all(group in lot for _, _, group in story))
        self.assertLessEqual(deeds.count("leave"), most)
        self.assertNotIn(play(row, story), saying)
        joins = deeds.count("join")
        if joins > 0:
            lost = within_leavings(~saying, lot, most=most)
            fewer = within_steps(row, lambda one: joined(one, lot.groups), min(joins - 1, 3))
            self.assertFalse([one for one in fewer if one in lost])
        return joins, deeds.count("leave")

    def test_a_leaving_that_cuts_across_a_joined_group(self):
        # From `ba` all rows end with `a`, unless `aba` joins at the beginning and its last sign leaves with `ba`.
        ends_with_a = Saying.read("ab: 1 0 -, 1 0 +")
        lot = Lot.of("aba")
        self.same(story_out(ends_with_a, lot, "ba", most=0), None)
        self.same(verdict_through(ends_with_a, lot, "ba", most=0), "sure")
        self.same(verdict_through(ends_with_a, lot, "ba"), "open")
        story = story_out(ends_with_a, lot, "ba")
        self.assertEqual([deed for deed, _, _ in story], ["join", "leave"])
        self.assertNotIn(play("ba", story), ends_with_a)

    def test_stories_of_one_kind(self):
        first_b = Saying.read("ab: 1 0 +, 1 1 -")
        story = story_out(first_b, Lot.of("ab"), "b", most=0)
        self.assertEqual([deed for deed, _, _ in story], ["join"])
        self.same(story_out(first_b, Lot.of("b"), "b", most=2), None)
        self.same(story_out(~first_b, Lot.of("a"), "ba", most=1), [("leave", 1, "a")])
        self.same(story_out(~first_b, Lot.of("a"), "ba", most=0), None)
        self.same(story_out(~first_b, Lot.of("a"), "b", most=2), [])
        self.same(verdict_through(first_b, Lot.of("bb"), "b", most=2), "sure")
        self.same(verdict_through(~first_b, Lot.of("bb"), "b", most=2), "never")

    def test_unknown_signs(self):
        for call in (verdict_through, story_out):
            self.refuses(UnknownSign, "d", call, HAS_A, Lot.of("a", "bdc"), "x")
            self.refuses(UnknownSign, "x", call, HAS_A, Lot.of("a"), "bxy", most=0)
        self.refuses(UnknownSign, "c", within_leavings, HAS_A, Lot.of("b", "ac"))
        self.refuses(UnknownSign, "c", within_leavings, HAS_A, Lot.of("c"), most=0)

    def test_the_greatest_sizes(self):
        rng = seeded(391)
        row = "".join(rng.choice("abcd") for _ in range(200))
        for most, size in ((0, 3), (1, 3), (2, 2)):
            for groups in (["abca"], ["ab", "cd"], ["a", "bcd"], ["a", "b", "c", "d"]):
                for saying in (permuting(rng, "abcd", size), random_saying(rng, "abcd", size)):
                    told = verdict_through(saying, Lot(groups), row, most=most)
                    story = story_out(saying, Lot(groups), row, most=most)
                    self.assertEqual(story is None, told == "sure")
                    if story is not None:
                        self.assertNotIn(play(row, story), saying)
                    self.assertTrue(saying <= within_leavings(saying, Lot(groups), most=most))


if __name__ == "__main__":
    unittest.main()
