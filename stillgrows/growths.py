"""Growths: a start row and the joins that are made one after another."""

from stillgrows.digits import read_number
from stillgrows.errors import DoNotMeet, GapOutOfRange, InvalidGroup, InvalidText
from stillgrows.words import check_group, is_letters, renamed, turned


class Growth:
    """A start row and joins `(gap, group)`, each in the row that the joins before it have made."""

    def __init__(self, start, joins=()):
        row = start
        for gap, group in joins:
            if not 0 <= gap <= len(row):
                raise GapOutOfRange(gap)
            row = row[:gap] + check_group(group) + row[gap:]
        self.start = start
        self.joins = tuple([(gap, group) for gap, group in joins])
        self._row = row

    @classmethod
    def read(cls, text):
        """Return the growth that the text writes, or raise InvalidText."""
        start, _, tail = text.partition(": ")
        parts = [] if tail == "-" else [join.split(" ") for join in tail.split(", ")]
        if not is_letters(start) or not all([len(part) == 2 for part in parts]):
            raise InvalidText(text)
        try:
            return cls(start, [(read_number(part[0]), part[1]) for part in parts])
        except (GapOutOfRange, InvalidGroup):
            raise InvalidText(text) from None

    @property
    def row(self):
        """The end row."""
        return self._row

    def stages(self):
        """Yield the start row and then the row after each join."""
        row = self.start
        yield row
        for gap, group in self.joins:
            row = row[:gap] + group + row[gap:]
            yield row

    def owners(self):
        """Return the list of `(owner, place)` of each sign of the end row."""
        signs = [(0, place) for place in range(1, len(self.start) + 1)]
        for k, (gap, group) in enumerate(self.joins):
            signs[gap:gap] = [(k + 1, place) for place in range(1, len(group) + 1)]
        return signs

    def renamed(self, old, new):
        """Return the growth with the renamed start row and groups at the same gaps."""
        joins = [(gap, renamed(group, old, new)) for gap, group in self.joins]
        return Growth(renamed(self.start, old, new), joins)

    def turned(self):
        """Return the growth in which every row is read from its end."""
        rows = list(self.stages())
        joins = [(len(row) - gap, turned(group)) for row, (gap, group) in zip(rows, self.joins)]
        return Growth(turned(self.start), joins)

    def text(self):
        """Return the text of the growth."""
        joins = ", ".join([f"{gap} {group}" for gap, group in self.joins]) or "-"
        return f"{self.start}: {joins}"

    def __len__(self):
        return len(self.joins)

    def __iter__(self):
        return iter(self.joins)

    def __getitem__(self, at):
        return self.joins[at]

    def __eq__(self, other):
        return isinstance(other, Growth) and self.start == other.start and self.joins == other.joins

    def __add__(self, other):
        if self.row != other.start:
            raise DoNotMeet((self.row, other.start))
        return Growth(self.start, self.joins + other.joins)

    def __lshift__(self, k):
        return Growth(self.start, self.joins[:max(0, len(self.joins) - k)])

    def __rshift__(self, k):
        before = Growth(self.start, self.joins[:k])
        return Growth(before.row, self.joins[k:])

    def __abs__(self):
        return sum([len(group) for _, group in self.joins])
