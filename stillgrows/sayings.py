"""Sayings: sets of rows that a table of states describes."""

from stillgrows.digits import read_number
from stillgrows.errors import DifferentSigns, InvalidSigns, InvalidTable, InvalidText
from stillgrows.tables import canonical, paired
from stillgrows.words import check_row, check_signs, renamed


def check_table(signs, table, marks):
    """Raise InvalidTable if the table and the marks are not those of a saying."""
    for state, entry in enumerate(table):
        if len(entry) != len(signs) or not all([0 <= to < len(table) for to in entry]):
            raise InvalidTable(state)
    if len(table) == 0 or len(marks) != len(table):
        raise InvalidTable(len(table))


def check_same_signs(first, second):
    """Raise DifferentSigns if the alphabets of two sayings differ."""
    if first.signs != second.signs:
        raise DifferentSigns((first.signs, second.signs))


def pairs_of(first, second):
    """Return the pairs of states that rows lead to in two sayings, and the table of the pairs."""
    check_same_signs(first, second)
    return paired(first.table, second.table)


class Saying:
    """A set of rows over an alphabet, kept as its canonical table."""

    def __init__(self, signs, table, marks):
        check_signs(signs)
        check_table(signs, table, marks)
        self.signs = signs
        self.table, self.marks = canonical(table, marks)

    @classmethod
    def full(cls, signs):
        """Return the saying of all rows."""
        return cls(signs, [[0] * len(signs)], [True])

    @classmethod
    def void(cls, signs):
        """Return the saying of no row."""
        return cls(signs, [[0] * len(signs)], [False])

    @classmethod
    def single(cls, signs, row):
        """Return the saying that holds this row alone."""
        check_row(row, check_signs(signs))
        lost = len(row) + 1
        table = [[at + 1 if sign == wanted else lost for sign in signs] for at, wanted in enumerate(row)]
        table = table + [[lost] * len(signs), [lost] * len(signs)]
        return cls(signs, table, [at == len(row) for at in range(lost + 1)])

    @classmethod
    def read(cls, text):
        """Return the saying that the text writes, or raise InvalidText."""
        signs, _, tail = text.partition(": ")
        entries = [entry.split(" ") for entry in tail.split(", ")]
        if not all([words[-1] in ("+", "-") for words in entries]):
            raise InvalidText(text)
        table = [[read_number(word) for word in words[:-1]] for words in entries]
        try:
            return cls(signs, table, [words[-1] == "+" for words in entries])
        except (InvalidSigns, InvalidTable):
            raise InvalidText(text) from None

    @property
    def size(self):
        """The number of states."""
        return len(self.table)

    @property
    def is_void(self):
        """Whether no row is in the saying; each state of a canonical table is reached."""
        return True not in self.marks

    def step(self, state, sign):
        """Return the state after the sign."""
        check_row(sign, self.signs)
        return self.table[state][self.signs.find(sign)]

    def state_after(self, row, state=0):
        """Return the state after the row, read from the given state."""
        for sign in row:
            state = self.step(state, sign)
        return state

    def renamed(self, old, new):
        """Return the saying of the renamed rows."""
        names = renamed(self.signs, old, new)
        signs = check_signs("".join(sorted([str(name) for name in names])))
        columns = [names.index(name) for name in signs]
        return Saying(signs, [[entry[column] for column in columns] for entry in self.table], self.marks)

    def text(self):
        """Return the text of the saying."""
        entries = []
        for entry, mark in zip(self.table, self.marks):
            numbers = " ".join([str(to) for to in entry])
            sign = "+" if mark else "-"
            entries.append(f"{numbers} {sign}")
        return f"{self.signs}: " + ", ".join(entries)

    def __and__(self, other):
        pairs, table = pairs_of(self, other)
        return Saying(self.signs, table, [self.marks[p] and other.marks[q] for p, q in pairs])

    def __or__(self, other):
        pairs, table = pairs_of(self, other)
        return Saying(self.signs, table, [self.marks[p] or other.marks[q] for p, q in pairs])

    def __sub__(self, other):
        pairs, table = pairs_of(self, other)
        return Saying(self.signs, table, [self.marks[p] and not other.marks[q] for p, q in pairs])

    def __xor__(self, other):
        pairs, table = pairs_of(self, other)
        return Saying(self.signs, table, [self.marks[p] != other.marks[q] for p, q in pairs])

    def __invert__(self):
        return Saying(self.signs, self.table, [not mark for mark in self.marks])

    def __le__(self, other):
        pairs, _ = pairs_of(self, other)
        return all([other.marks[q] or not self.marks[p] for p, q in pairs])

    def __eq__(self, other):
        return (isinstance(other, Saying) and self.signs == other.signs
                and self.table == other.table and self.marks == other.marks)

    def __contains__(self, row):
        return self.marks[self.state_after(row)]

    def __floordiv__(self, row):
        after = self.state_after(row)
        # A new state 0 goes on as the state after the row does.
        table = [[to + 1 for to in entry] for entry in self.table]
        return Saying(self.signs, [table[after]] + table, (self.marks[after],) + self.marks)
