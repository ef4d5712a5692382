"""The errors that the program raises."""


class GrowsError(ValueError):
    """The base class of all errors of the program; `value` tells what was refused."""

    def __init__(self, value):
        super().__init__(f"refused: {value!r}")
        self.value = value


class InvalidSigns(GrowsError):
    """The string is not an alphabet."""


class UnknownSign(GrowsError):
    """The sign is not in the alphabet."""


class InvalidGroup(GrowsError):
    """The string is not a group."""


class InvalidTable(GrowsError):
    """A state of the table, or the table as a whole, is not well-formed."""


class DifferentSigns(GrowsError):
    """The two alphabets differ."""


class InvalidText(GrowsError):
    """The text does not write what it is read as."""


class GapOutOfRange(GrowsError):
    """The row does not have the gap."""


class DoNotMeet(GrowsError):
    """One growth does not begin where the other one ends."""


class NotThere(GrowsError):
    """The group does not stand at the gap."""


class WrongCount(GrowsError):
    """There are too many entries or too few."""


class InvalidRule(GrowsError):
    """The words are not those of a rule of placing."""


class InvalidCall(GrowsError):
    """The parts of the call are not good."""


class MissingAnchor(GrowsError):
    """The anchor of the call is not there."""


class ClashingCalls(GrowsError):
    """Two different calls have the key."""


class MixesGroups(GrowsError):
    """The rule does not keep groups whole."""


class InvalidPattern(GrowsError):
    """The text of a pattern is wrong at the index."""


class NotGrowing(GrowsError):
    """The group leads out of the saying."""


class NotInLot(GrowsError):
    """The group is not in the lot."""


class UnknownStation(GrowsError):
    """There is no station with the index."""


class UnknownCall(GrowsError):
    """There is no call with the key."""


class NotHolding(GrowsError):
    """The row is not in the saying."""


class RefusedJoin(GrowsError):
    """The join is not let in."""


class UnknownName(GrowsError):
    """The name is not known."""


class NameTaken(GrowsError):
    """The name is taken already."""


class NothingToUndo(GrowsError):
    """No deed is left to be taken back."""


class InvalidCommand(GrowsError):
    """The line does not have its form, or it is refused."""
