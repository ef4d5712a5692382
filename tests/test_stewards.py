import unittest

from helpers import GrowsCase, all_rows, grown, permuting, random_lot, random_saying, seeded
from stillgrows.errors import GapOutOfRange, NotInLot, RefusedJoin, UnknownSign
from stillgrows.growths import Growth
from stillgrows.lots import Lot
from stillgrows.meanings import saying_of_text
from stillgrows.papers import Paper, accepts, paper_of
from stillgrows.sayings import Saying
from stillgrows.stewards import HopefulSteward, SafeSteward, SteadySteward, Steward
from stillgrows.sures import may_saying, sure_saying
from stillgrows.verdicts import growth_out

HAS_A = Saying.read("ab: 1 0 -, 1 1 +")
# The rows with at most one sign `a`.
ONE_A = Saying.read("ab: 1 0 +, 2 1 +, 2 2 -")
KINDS = (Steward, SafeSteward, HopefulSteward, SteadySteward)
EMPTY = Lot([])


def some_parts(seed, many, most=5):
    rng = seeded(seed)
    yield ONE_A, EMPTY, Lot.of("a", "b")
    yield ONE_A, Lot.of("b"), Lot.of("a")
    yield HAS_A, Lot.of("a"), Lot.of("b")
    yield HAS_A, Lot.of("ab"), EMPTY
    yield saying_of_text("<ab>&~<bbb>", "ab"), Lot.of("b"), Lot.of("a", "b", "ba")
    for _ in range(many):
        saying = random_saying(rng, "ab", rng.randint(1, most))
        yield saying, random_lot(rng, "ab", rng.randint(0, 2), 2), random_lot(rng, "ab", rng.randint(0, 3), 3)


def all_joins(row, lot):
    return [(gap, group) for gap in range(len(row) + 1) for group in lot]


def after(row, gap, group):
    return row[:gap] + group + row[gap:]


class TestFields(GrowsCase):
    def test_fields_and_kinds(self):
        for saying, free, held in some_parts(370, 20):
            both = free | held
            hope = may_saying(saying, both)
            kept = (Saying.full("ab"), sure_saying(saying, free), hope, sure_saying(hope, free))
            for kind, name, rows in zip(KINDS, ("plain", "safe", "hopeful", "steady"), kept):
                steward = kind(saying, free, held)
                self.assertEqual((steward.saying, steward.free, steward.held), (saying, free, held))
                self.same(steward.kept, rows)
                self.same(steward.KIND, name)
                self.same(kind.KIND, name)
            self.same(SteadySteward(saying, free, held).hope, hope)

    def test_what_kept_means(self):
        for saying, free, held in some_parts(371, 12, 3):
            safe, hopeful = SafeSteward(saying, free, held).kept, HopefulSteward(saying, free, held).kept
            steady = SteadySteward(saying, free, held).kept
            for row in all_rows("ab", 2):
                freely = grown(row, free.groups, 6)
                if row in safe:
                    self.assertTrue(all(other in saying for other in freely))
                if row in steady:
                    self.assertTrue(all(other in hopeful for other in freely))
                if any(other in saying for other in grown(row, (free | held).groups, 6)):
                    self.assertIn(row, hopeful)

    def test_families(self):
        steady = SteadySteward(HAS_A, EMPTY, EMPTY)
        self.assertIsInstance(steady, HopefulSteward)
        self.assertNotIsInstance(steady, SafeSteward)
        for kind in KINDS:
            self.assertIsInstance(kind(HAS_A, EMPTY, EMPTY), Steward)
        self.assertFalse(hasattr(HopefulSteward(HAS_A, EMPTY, EMPTY), "hope"))

    def test_unknown_signs(self):
        for kind in KINDS:
            self.refuses(UnknownSign, "d", kind, HAS_A, Lot.of("a", "bdc"), Lot.of("c"))
            self.refuses(UnknownSign, "d", kind, HAS_A, Lot.of("ab"), Lot.of("aac", "bd"))
            self.refuses(UnknownSign, "e", kind, HAS_A, EMPTY, Lot.of("e"))


class TestJoins(GrowsCase):
    def test_lets_and_let_in(self):
        answers = {kind: set() for kind in KINDS}
        for saying, free, held in some_parts(372, 30):
            for kind in KINDS:
                steward = kind(saying, free, held)
                for row in ("", "a", "bab"):
                    for gap, group in all_joins(row, free | held):
                        other = after(row, gap, group)
                        lets = group in free or other in steward.kept
                        self.same(steward.lets(row, gap, group), lets)
                        answers[kind].add((lets, group in free, row in steward.kept))
                        if lets:
                            self.same(steward.let_in(row, gap, group), other)
                        else:
                            self.refuses(RefusedJoin, (gap, group), steward.let_in, row, gap, group)
        self.assertEqual({lets for lets, _, _ in answers[Steward]}, {True})
        for kind in KINDS[1:]:
            # Joins of free and held groups, let in and refused, into rows that are kept and others.
            wanted = {(True, True, True), (True, True, False), (True, False, True), (False, False, True),
                      (False, False, False)}
            self.assertLessEqual(wanted, answers[kind])

    def test_rows_that_are_not_kept(self):
        steward = SafeSteward(HAS_A, Lot.of("b"), Lot.of("a", "bb"))
        self.assertNotIn("", steward.kept)
        self.same(steward.lets("", 0, "a"), True)
        self.same(steward.let_in("b", 1, "a"), "ba")
        self.same(steward.lets("", 0, "bb"), False)
        self.same(steward.lets("", 0, "b"), True)
        self.same(steward.lets("a", 0, "bb"), True)

    def test_a_group_of_both_lots_is_free(self):
        for kind in KINDS:
            steward = kind(Saying.single("ab", "a"), Lot.of("b"), Lot.of("b", "a"))
            self.same(steward.lets("a", 1, "b"), True)
        self.same(SafeSteward(Saying.single("ab", "a"), EMPTY, Lot.of("b")).lets("a", 1, "b"), False)

    def test_errors_of_lets_in_their_order(self):
        for kind in KINDS:
            steward = kind(ONE_A, Lot.of("b"), Lot.of("a"))
            for call in (steward.lets, steward.let_in, steward.why):
                self.refuses(UnknownSign, "d", call, "adc", 9, "x")
                for gap in (-1, 3):
                    self.refuses(GapOutOfRange, gap, call, "ab", gap, "x")
                self.refuses(NotInLot, "x", call, "ab", 2, "x")
                self.refuses(NotInLot, "", call, "ab", 2, "")
                self.refuses(NotInLot, "ab", call, "", 0, "ab")
        refusing = SafeSteward(ONE_A, EMPTY, Lot.of("a"))
        self.refuses(RefusedJoin, (2, "a"), refusing.let_in, "ab", 2, "a")
        self.refuses(NotInLot, "b", refusing.let_in, "aa", 0, "b")

    def test_choices(self):
        for saying, free, held in some_parts(373, 20):
            for kind in KINDS:
                steward = kind(saying, free, held)
                for row in ("", "b", "aba"):
                    wanted = [join for join in all_joins(row, free | held) if steward.lets(row, *join)]
                    self.same(list(steward.choices(row)), wanted)
        steward = Steward(HAS_A, Lot.of("b"), Lot.of("a", "ab"))
        self.same(list(steward.choices("b")), [(0, "a"), (0, "b"), (0, "ab"), (1, "a"), (1, "b"), (1, "ab")])
        self.same(list(SafeSteward(ONE_A, Lot.of("b"), Lot.of("a")).choices("a")), [(0, "b"), (1, "b")])

    def test_choices_raise_when_they_are_iterated(self):
        for kind in KINDS:
            choices = kind(HAS_A, EMPTY, Lot.of("a")).choices("adc")
            self.refuses(UnknownSign, "d", next, choices)
            self.refuses(UnknownSign, "c", list, kind(HAS_A, EMPTY, EMPTY).choices("ac"))


class TestWhy(GrowsCase):
    def test_why(self):
        given = {kind: 0 for kind in KINDS}
        for saying, free, held in some_parts(374, 40):
            for kind in KINDS:
                steward = kind(saying, free, held)
                for row in ("", "a", "bab"):
                    for gap, group in all_joins(row, free | held):
                        why = steward.why(row, gap, group)
                        if steward.lets(row, gap, group):
                            self.assertIsNone(why)
                        else:
                            given[kind] += 1
                            self.explains(steward, after(row, gap, group), why)
        self.assertEqual(given[Steward], 0)
        self.assertTrue(all(given[kind] > 20 for kind in KINDS[1:]))

    def explains(self, steward, row, why):
        """Check that the answer tells why the row is not kept."""
        if steward.KIND == "hopeful":
            both = steward.free | steward.held
            self.assertIs(type(why), Paper)
            self.assertEqual(why, paper_of(steward.saying, both, row))
            self.assertEqual(why.word, "never")
            self.assertTrue(accepts(steward.saying, both, row, why))
            return
        saying = steward.saying if steward.KIND == "safe" else steward.hope
        self.assertIs(type(why), Growth)
        self.assertEqual(why.start, row)
        self.assertTrue(all(group in steward.free for _, group in why.joins))
        self.assertNotIn(why.row, saying)
        self.assertEqual(len(why), len(growth_out(saying, steward.free, row)))

    def test_growths_that_need_joins(self):
        # By free groups `a` the row `a` leaves the saying of at most two signs `a` after two joins.
        two_as = Saying.read("ab: 1 0 +, 2 1 +, 3 2 +, 3 3 -")
        why = SafeSteward(two_as, Lot.of("a"), Lot.of("b")).why("a", 0, "b")
        self.assertEqual((why.start, len(why), why.row.count("a")), ("ba", 2, 3))
        # The saying can still be reached from the rows with at most two signs `a` alone.
        steady = SteadySteward(two_as, Lot.of("a"), Lot.of("b"))
        self.assertEqual(steady.hope, two_as)
        self.assertEqual(len(steady.why("a", 0, "b")), 2)
        self.same(HopefulSteward(two_as, Lot.of("a"), Lot.of("b")).why("a", 0, "b"), None)

    def test_hope(self):
        # A `b` must stand somewhere: it can join as long as not two signs `a` stand there.
        saying = Saying.read("ab: 1 2 -, 3 2 -, 2 2 +, 3 3 -")
        steady = SteadySteward(saying, Lot.of("a"), Lot.of("b"))
        hopeful = HopefulSteward(saying, Lot.of("a"), Lot.of("b"))
        self.assertEqual(steady.hope, hopeful.kept)
        self.assertEqual(steady.kept, sure_saying(hopeful.kept, Lot.of("a")))


class TestSizes(GrowsCase):
    def test_the_greatest_sizes(self):
        rng = seeded(375)
        row = "".join(rng.choice("abcd") for _ in range(200))
        for make in (permuting, random_saying):
            saying, lot = make(rng, "abcd", 16), random_lot(rng, "abcd", 8, 6)
            free, held = Lot(lot.groups[::2]), Lot(lot.groups[1::2])
            for kind in KINDS:
                steward = kind(make(rng, "abcd", 5) if kind is SteadySteward else saying, free, held)
                self.assertTrue(all(steward.lets(row, *join) for join in list(steward.choices(row))[:50]))
                for group in held:
                    self.assertEqual(steward.why(row, 100, group) is None, steward.lets(row, 100, group))

    def test_a_hope_with_many_states(self):
        # Each row leads a set of states on; by the groups these are led to other sets.
        table = [[(at + 1) % 5, at if at > 1 else 1 - at, at] for at in range(5)]
        saying = Saying("abc", table, [at == 4 for at in range(5)])
        for free, held in ((Lot.of("b"), Lot.of("c")), (Lot.of("bbaaaaa"[:6]), Lot.of("ba")), (Lot.of("ab"), Lot.of("ba"))):
            steady = SteadySteward(saying, free, held)
            self.assertEqual(steady.kept, sure_saying(steady.hope, free))


if __name__ == "__main__":
    unittest.main()
