"""Oracles, which answer questions about a lot that they do not show."""

from stillgrows.derive import comes
from stillgrows.lots import Lot
from stillgrows.sayings import Saying
from stillgrows.spreads import plain_spread
from stillgrows.verdicts import verdict
from stillgrows.words import check_signs, rows_up_to


class Oracle:
    """A hidden lot; `asked` counts the questions that have been answered."""

    def __init__(self, lot):
        self._lot = lot
        self.asked = 0

    def __call__(self, saying, row):
        """Return the verdict on the row for the saying and the hidden lot."""
        answer = verdict(plain_spread(saying, self._lot), row)
        self.asked = self.asked + 1
        return answer


def told_back(oracle, signs, *, longest=2):
    """Return the base of the groups of the oracle's lot with at most `longest` signs, found by questions."""
    check_signs(signs)
    found = Lot([])
    for row in rows_up_to(signs, longest):
        # The empty row comes from each lot, so it is not asked about.
        if not comes("", row, found) and oracle(~Saying.single(signs, row), "") != "sure":
            found = found | Lot.of(row)
    return found
