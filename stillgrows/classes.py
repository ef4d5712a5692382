"""Classes of rows that lead the states of a saying alike."""

from stillgrows.sayings import Saying
from stillgrows.words import check_row


class Classes:
    """The classes of a saying, numbered in the row order of their first rows."""

    def __init__(self, saying):
        self.signs = saying.signs
        columns = [[entry[column] for entry in saying.table] for column in range(len(saying.signs))]
        maps = [tuple([state for state in range(saying.size)])]
        numbers = {maps[0]: 0}
        words = [""]
        table = []
        while len(table) < len(maps):
            before = maps[len(table)]
            entry = []
            for sign, column in zip(saying.signs, columns):
                behind = tuple([column[state] for state in before])
                if behind not in numbers:
                    numbers[behind] = len(maps)
                    words.append(words[len(table)] + sign)
                    maps.append(behind)
                entry.append(numbers[behind])
            table.append(entry)
        self.words = tuple(words)
        self._maps = tuple(maps)
        # For each class and each sign the class of the rows with this sign behind them.
        self._table = table

    def class_of(self, row):
        """Return the number of the class of the row."""
        return self._behind(0, check_row(row, self.signs))

    def product(self, *numbers):
        """Return the number of the class of the rows made of one row of each class, in order."""
        behind = 0
        for number in numbers:
            behind = self._behind(behind, self.words[number])
        return behind

    def rows_of(self, number):
        """Return the saying of the rows of the class."""
        return Saying(self.signs, self._table, [at == number for at in range(len(self._maps))])

    def _behind(self, number, row):
        """Return the class of the rows that have this row behind a row of the class."""
        for sign in row:
            number = self._table[number][self.signs.index(sign)]
        return number

    def __len__(self):
        return len(self._maps)

    def __getitem__(self, number):
        return self._maps[number]

    def __iter__(self):
        return iter(self._maps)
