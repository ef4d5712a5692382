import inspect
import itertools
import unittest

from helpers import GrowsCase
from stillgrows.rules import Rule
from stillgrows.stamps import Stamp


class TestStamps(GrowsCase):
    def test_fields(self):
        stamp = Stamp(7, 2, 3)
        self.assertEqual((stamp.clock, stamp.station, stamp.number), (7, 2, 3))

    def test_order_and_equality(self):
        parts = list(itertools.product((1, 2, 10), (0, 1, 5), (1, 2, 10)))
        for one in parts:
            for two in parts:
                self.same(Stamp(*one) < Stamp(*two), one < two)
                self.same(Stamp(*one) == Stamp(*two), one == two)
                self.same(Stamp(*one) != Stamp(*two), one != two)

    def test_other_values(self):
        for other in ((1, 0, 1), [1, 0, 1], 1, None, "1", Rule()):
            self.same(Stamp(1, 0, 1) == other, False)
            self.same(Stamp(1, 0, 1) != other, True)

    def test_operators_are_defined_in_the_class(self):
        for name in ("__eq__", "__lt__"):
            self.assertTrue(inspect.isfunction(vars(Stamp)[name]))


if __name__ == "__main__":
    unittest.main()
