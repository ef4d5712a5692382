"""Papers: certificates for verdicts, which can be checked without looking for growths."""

from stillgrows.closures import check_entries, check_lot, is_closed
from stillgrows.digits import read_number
from stillgrows.errors import InvalidTable, InvalidText, WrongCount
from stillgrows.spreads import plain_spread
from stillgrows.verdicts import verdict_of
from stillgrows.words import check_row

WORDS = ("sure", "never")


def ascending(numbers):
    """Return the different numbers as an ascending tuple."""
    return tuple(sorted(set([int(number) for number in numbers])))


def entries_text(entries):
    """Return the text of the entries of a table, or of a list of sets."""
    return ", ".join([" ".join([str(number) for number in entry]) or "-" for entry in entries])


def read_entries(text):
    """Return the list of the lists of numbers that the text writes; what is no number becomes NO_NUMBER."""
    words = [[] if entry == "-" else entry.split(" ") for entry in text.split(", ")]
    return [[read_number(word) for word in entry] for entry in words]


class Paper:
    """A word, a table and a list of sets."""

    def __init__(self, word, table, sets):
        self.word = word
        self.table = tuple([ascending(entry) for entry in table])
        self.sets = tuple([ascending(states) for states in sets])

    @classmethod
    def read(cls, text):
        """Return the paper that the text writes, or raise InvalidText."""
        parts = text.split("; ")
        if len(parts) != 3 or parts[0] not in WORDS:
            raise InvalidText(text)
        table, sets = read_entries(parts[1]), read_entries(parts[2])
        paper = cls(parts[0], table, sets)
        # The entries of the text must be ascending and without duplicates already.
        if not all([number >= 0 for entry in table + sets for number in entry]) or paper.text() != text:
            raise InvalidText(text)
        return paper

    def text(self):
        """Return the text of the paper."""
        return f"{self.word}; {entries_text(self.table)}; {entries_text(self.sets)}"

    def __eq__(self, other):
        return (isinstance(other, Paper) and self.word == other.word
                and self.table == other.table and self.sets == other.sets)


def paper_of(saying, lot, row):
    """Return the least paper of the row, or None if the row is open."""
    spread = plain_spread(saying, lot)
    check_row(row, saying.signs)
    sets = list(spread.ends_along(row))
    word = verdict_of(saying.marks, sets[-1])
    return None if word == "open" else Paper(word, spread.gap, sets)


def led_on(saying, table, states, sign):
    """Return the states of the entries of the states to which the sign leads the states."""
    return [to for state in states for to in table[saying.step(state, sign)]]


def carried(saying, paper, row):
    """Return the paper with the same word and table and with the sets that they make for the row."""
    check_row(row, saying.signs)
    check_entries(saying, paper.table)
    sets = [paper.table[0]]
    for sign in row:
        sets.append(ascending(led_on(saying, paper.table, sets[-1], sign)))
    return Paper(paper.word, paper.table, sets)


def has_closed_table(saying, lot, paper):
    """Tell whether the table of the paper is one of the saying, and closed."""
    try:
        return is_closed(saying, lot, paper.table)
    except (WrongCount, InvalidTable):
        return False


def are_good_sets(saying, row, paper):
    """Tell whether the sets of the paper have states alone and contain those that they must."""
    if len(paper.sets) != len(row) + 1:
        return False
    if not all([0 <= state < saying.size for states in paper.sets for state in states]):
        return False
    needed = paper.table[0]
    for at, states in enumerate(paper.sets):
        if not all([state in states for state in needed]):
            return False
        if at < len(row):
            needed = led_on(saying, paper.table, states, row[at])
    return True


def accepts(saying, lot, row, paper):
    """Tell whether the paper is accepted for the saying, the lot and the row."""
    check_lot(lot, saying.signs)
    check_row(row, saying.signs)
    if not has_closed_table(saying, lot, paper) or not are_good_sets(saying, row, paper):
        return False
    wanted = paper.word == "sure"
    return all([saying.marks[state] == wanted for state in paper.sets[-1]])
