"""Lots: finite sets of groups."""

from stillgrows.errors import InvalidGroup, InvalidText
from stillgrows.words import check_group, in_row_order, renamed, turned


class Lot:
    """A set of groups, kept in row order."""

    def __init__(self, groups):
        self.groups = tuple(in_row_order([check_group(group) for group in groups]))

    @classmethod
    def of(cls, *groups):
        """Return the lot of the groups."""
        return cls(groups)

    @classmethod
    def read(cls, text):
        """Return the lot that the text writes, or raise InvalidText."""
        words = [] if text == "-" else text.split(" ")
        try:
            return cls(words)
        except InvalidGroup:
            raise InvalidText(text) from None

    @property
    def letters(self):
        """The different signs of all groups in ascending order."""
        return "".join(sorted(set([str(sign) for group in self.groups for sign in group])))

    @property
    def longest(self):
        """The number of signs of the longest group, or 0 without groups."""
        return max([len(group) for group in self.groups], default=0)

    def turned(self):
        """Return the lot of the groups read from their ends."""
        return Lot([turned(group) for group in self.groups])

    def renamed(self, old, new):
        """Return the lot of the renamed groups."""
        return Lot([renamed(group, old, new) for group in self.groups])

    def scattered(self):
        """Return the lot of the single letters of the groups."""
        return Lot(list(self.letters))

    def text(self):
        """Return the text of the lot."""
        return " ".join(self.groups) or "-"

    def __or__(self, other):
        return Lot(self.groups + other.groups)

    def __and__(self, other):
        return Lot([group for group in self.groups if group in other.groups])

    def __sub__(self, other):
        return Lot([group for group in self.groups if group not in other.groups])

    def __le__(self, other):
        return all([group in other.groups for group in self.groups])

    def __eq__(self, other):
        return isinstance(other, Lot) and self.groups == other.groups

    def __contains__(self, group):
        return group in self.groups

    def __len__(self):
        return len(self.groups)

    def __iter__(self):
        return iter(self.groups)

    def __abs__(self):
        return sum([len(group) for group in self.groups])
