import unittest

from helpers import GrowsCase, all_rows, permuting, random_lot, random_saying, rows_in, seeded
from stillgrows.errors import DifferentSigns, UnknownSign
from stillgrows.lots import Lot
from stillgrows.meanings import saying_of_text
from stillgrows.sayings import Saying
from stillgrows.sides import agreeing, implies, parting_verdict, same_tellings
from stillgrows.spreads import plain_spread
from stillgrows.sures import sure_saying
from stillgrows.verdicts import verdict

HAS_A = Saying.read("ab: 1 0 -, 1 1 +")
EMPTY = Lot([])


def some_views(seed, many):
    rng = seeded(seed)
    yield HAS_A, Lot.of("a"), HAS_A, Lot.of("ab")
    yield HAS_A, Lot.of("a"), HAS_A, Lot.of("b")
    yield HAS_A, EMPTY, HAS_A, Lot.of("b")
    yield HAS_A, Lot.of("a"), ~HAS_A, Lot.of("a")
    yield Saying.full("ab"), Lot.of("a"), Saying.full("ab"), EMPTY
    for _ in range(many):
        saying = random_saying(rng, "ab", 4)
        other = rng.choice([saying, ~saying, random_saying(rng, "ab", 4), saying | random_saying(rng, "ab", 2)])
        yield saying, random_lot(rng, "ab", rng.randint(0, 2), 3), other, random_lot(rng, "ab", rng.randint(0, 2), 3)


class TestTellings(GrowsCase):
    def test_against_the_verdicts(self):
        answers = set()
        for one, lot, two, other in some_views(420, 60):
            spreads = plain_spread(one, lot), plain_spread(two, other)
            rows = all_rows("ab", 6)
            same = [row for row in rows if verdict(spreads[0], row) == verdict(spreads[1], row)]
            self.assertEqual(rows_in(agreeing(one, lot, two, other), 6), same)
            parting = next((row for row in rows if row not in same), None)
            self.same(parting_verdict(one, lot, two, other), parting)
            self.same(same_tellings(one, lot, two, other), parting is None)
            answers.add(parting)
        self.assertLessEqual({None, "", "a"}, answers)

    def test_views_that_differ_in_sure_or_in_never_alone(self):
        # The lot lets every row reach the saying, so what differs is only whether it is sure.
        a_then_b, lot = saying_of_text("<b>", "ab"), Lot.of("b")
        self.same(parting_verdict(a_then_b, lot, Saying.full("ab"), lot), "")
        # Of the rows without `b` one view tells never and the other one open.
        self.same(parting_verdict(a_then_b, EMPTY, a_then_b, lot), "")
        self.same(agreeing(a_then_b, EMPTY, a_then_b, lot), a_then_b)

    def test_views_that_tell_the_same_everywhere(self):
        self.same(same_tellings(HAS_A, Lot.of("ab"), HAS_A, Lot.of("a")), True)
        self.same(agreeing(HAS_A, Lot.of("ab"), HAS_A, Lot.of("a", "b")), Saying.full("ab"))
        self.same(parting_verdict(HAS_A, Lot.of("ab"), HAS_A, Lot.of("a", "b")), None)
        self.same(parting_verdict(HAS_A, EMPTY, HAS_A, Lot.of("a")), "")
        self.same(parting_verdict(~HAS_A, EMPTY, saying_of_text("~<aa>", "ab"), EMPTY), "a")

    def test_errors_in_their_order(self):
        wide, lot = Saying.full("abc"), Lot.of("a", "bed")
        for call in (agreeing, parting_verdict, same_tellings):
            self.refuses(DifferentSigns, ("ab", "abc"), call, HAS_A, lot, wide, Lot.of("d"))
            self.refuses(DifferentSigns, ("abc", "ab"), call, wide, EMPTY, HAS_A, EMPTY)
            self.refuses(UnknownSign, "e", call, HAS_A, lot, ~HAS_A, Lot.of("d"))
            self.refuses(UnknownSign, "d", call, HAS_A, Lot.of("a"), ~HAS_A, Lot.of("bc", "d"))

    def test_the_greatest_sizes(self):
        rng = seeded(421)
        for make in (permuting, random_saying):
            views = make(rng, "abcd", 6), random_lot(rng, "abcd", 8, 6), make(rng, "abcd", 6), Lot.of("dd")
            row = parting_verdict(*views)
            self.assertEqual(same_tellings(*views), row is None)
            if row is not None:
                self.assertNotEqual(verdict(plain_spread(*views[:2]), row), verdict(plain_spread(*views[2:]), row))
                self.assertNotIn(row, agreeing(*views))


class TestImplies(GrowsCase):
    def test_against_the_sure_rows(self):
        answers = set()
        for one, lot, two, _ in some_views(422, 60):
            wanted = all(row in sure_saying(two, lot) for row in rows_in(sure_saying(one, lot), 6))
            self.same(implies(one, two, lot), wanted)
            answers.add(wanted)
        self.assertEqual(answers, {True, False})

    def test_some(self):
        self.same(implies(HAS_A, Saying.full("ab"), Lot.of("a")), True)
        self.same(implies(Saying.full("ab"), HAS_A, Lot.of("a")), False)
        # No row is sure to have no `a`, so the rows without it imply anything.
        self.same(implies(~HAS_A, Saying.void("ab"), Lot.of("a")), True)
        self.same(implies(~HAS_A, Saying.void("ab"), Lot.of("b")), False)

    def test_errors_in_their_order(self):
        self.refuses(DifferentSigns, ("ab", "b"), implies, HAS_A, Saying.full("b"), Lot.of("x"))
        self.refuses(UnknownSign, "x", implies, HAS_A, ~HAS_A, Lot.of("a", "bxc"))


if __name__ == "__main__":
    unittest.main()
