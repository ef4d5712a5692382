import inspect
import unittest

from helpers import GrowsCase
from stillgrows import errors

NAMES = """InvalidSigns UnknownSign InvalidGroup InvalidTable DifferentSigns InvalidText GapOutOfRange
DoNotMeet NotThere WrongCount InvalidRule InvalidCall MissingAnchor ClashingCalls MixesGroups
InvalidPattern NotGrowing NotInLot UnknownStation UnknownCall NotHolding RefusedJoin UnknownName
NameTaken NothingToUndo InvalidCommand""".split()


class TestErrors(GrowsCase):
    def test_there_are_26_direct_subclasses_and_no_others(self):
        self.assertEqual(len(NAMES), 26)
        classes = [name for name, value in vars(errors).items() if inspect.isclass(value)]
        self.assertEqual(sorted(classes), sorted(NAMES + ["GrowsError"]))
        for name in NAMES:
            self.assertEqual(getattr(errors, name).__bases__, (errors.GrowsError,))
        self.assertEqual(errors.GrowsError.__bases__, (ValueError,))

    def test_the_value_is_kept_as_it_is(self):
        for name in NAMES + ["GrowsError"]:
            for value in ("ab", "", 3, -1, ("ab", "b"), (0, "a"), ((0, 1), "a"), None):
                self.assertIs(getattr(errors, name)(value).value, value)

    def test_all_are_caught_as_their_base_classes(self):
        for name in NAMES:
            with self.assertRaises(ValueError):
                raise getattr(errors, name)("a")
            with self.assertRaises(errors.GrowsError):
                raise getattr(errors, name)("a")

    def test_one_value_is_passed(self):
        with self.assertRaises(TypeError):
            errors.GrowsError()


if __name__ == "__main__":
    unittest.main()
