"""Boards, which show the verdicts of named sayings once they are settled."""

from stillgrows.errors import NameTaken, UnknownName
from stillgrows.spreads import ending_masks, plain_spread
from stillgrows.subsets import marked_mask, union_at, union_tables
from stillgrows.words import check_row


class Watched:
    """A saying with a lot, made ready to judge many rows: sets of states are masks."""

    def __init__(self, saying, lot):
        self.signs = saying.signs
        self.marked = marked_mask(saying)
        self.start, columns = ending_masks(plain_spread(saying, lot))
        self.steps = {sign: union_tables(masks) for sign, masks in zip(saying.signs, columns)}

    def judge(self, row):
        """Return the verdict on the row."""
        ends = self.start
        for sign in row:
            ends = union_at(self.steps[sign], ends)
        if ends & self.marked == ends:
            return "sure"
        return "open" if ends & self.marked else "never"


class Board:
    """The watched sayings of a row that grows by the lot."""

    def __init__(self, lot):
        self.lot = lot
        # The verdicts by the names, and the sayings of those that are open.
        self._verdicts = {}
        self._watched = {}

    def watch(self, name, saying):
        """Add the open saying under the name."""
        if name in self._verdicts:
            raise NameTaken(name)
        self._watched[name] = Watched(saying, self.lot)
        self._verdicts[name] = "open"

    def look(self, row):
        """Judge each open saying for the row; return the names and verdicts of those that are settled now."""
        for watched in self._watched.values():
            check_row(row, watched.signs)
        judged = [(name, watched.judge(row)) for name, watched in self._watched.items()]
        settled = [(name, found) for name, found in judged if found != "open"]
        for name, found in settled:
            self._verdicts[name] = found
            self._watched.pop(name)
        return settled

    def copied(self):
        """Return a new board that shows the same."""
        other = Board(self.lot)
        other._verdicts = dict(self._verdicts)
        other._watched = dict(self._watched)
        return other

    def __getitem__(self, name):
        if name not in self._verdicts:
            raise UnknownName(name)
        return self._verdicts[name]

    def __contains__(self, name):
        return name in self._verdicts

    def __len__(self):
        return len(self._verdicts)

    def __iter__(self):
        return iter(self._verdicts)
