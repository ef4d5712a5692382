"""Days: the stations of a procession with their boards, and the deeds that are done."""

from stillgrows.boards import Board
from stillgrows.errors import (GapOutOfRange, GrowsError, NameTaken, NothingToUndo, NotInLot, RefusedJoin, UnknownCall,
                               WrongCount)
from stillgrows.posts import sure_under
from stillgrows.stations import Station, check_station
from stillgrows.words import check_row


def check_dealt(orders, start, lot):
    """Raise WrongCount or NotInLot if the orders are not such for the opening row and the lot."""
    if len(orders) != len(start) + 1:
        raise WrongCount(len(orders))
    for dealt in orders:
        for group in dealt:
            if group not in lot:
                raise NotInLot(group)


class Day:
    """The stations and boards of one procession, with the orders that were dealt and the deeds so far."""

    def __init__(self, count, start, rule, lot, *, orders=None):
        if orders is not None:
            check_dealt(orders, start, lot)
        self.count = count
        self.start = start
        self.rule = rule
        self.lot = lot
        self.orders = None if orders is None else tuple(orders)
        self.stations = [Station(index, count, start, rule, lot) for index in range(count)]
        self.boards = [Board(station.judged_lot()) for station in self.stations]
        self._deeds = []
        self._told = []
        # The calls of the day by their keys.
        self._calls = {}
        # For each deed what there was before it.
        self._before = []

    def speak(self, index, gap, group):
        """Let the station speak; return the call."""
        lots = self.orders_now(index)
        if not 0 <= gap < len(lots):
            raise GapOutOfRange(gap)
        if group not in self.lot:
            raise NotInLot(group)
        if group not in lots[gap]:
            raise RefusedJoin((gap, group))
        before = self._kept()
        call = self.stations[index].speak(gap, group)
        self._calls[call.key] = call
        self._end(("speak", index, gap, group), before)
        return call

    def hear(self, index, *keys):
        """Hand the calls with the keys to the station; return how many it newly hears."""
        check_station(index, self.count)
        for key in keys:
            if key not in self._calls:
                raise UnknownCall(key)
        before = self._kept()
        calls = [self._calls[key] for key in keys]
        many = self.stations[index].hear(*calls)
        self._end(("hear", index) + keys, before)
        return many

    def watch(self, name, saying):
        """Let all boards watch the saying under the name."""
        if name in self.boards[0]:
            raise NameTaken(name)
        check_row(self.start, saying.signs)
        before = self._kept()
        # All boards have one lot, so if one of them refuses the saying, the first one does.
        for board in self.boards:
            board.watch(name, saying)
        self._end(("watch", name, saying), before)

    def orders_now(self, index):
        """Return the list of the lots that may be called at the gaps of the row of the station."""
        check_station(index, self.count)
        dealt = (self.lot,) * (len(self.start) + 1) if self.orders is None else self.orders
        lots = [dealt[0]]
        passed = 0
        for key, _ in self.stations[index].layout():
            if key is None:
                passed += 1
            lots.append(dealt[passed])
        return lots

    def keeps(self, index, saying):
        """Tell whether the row of the station grows to rows of the saying alone under the orders now."""
        lots = self.orders_now(index)
        if self.rule.link == "loose":
            lots = [lot.scattered() for lot in lots]
        return sure_under(saying, self.stations[index].row, lots)

    def do(self, deed):
        """Do the deed; return what its method returns."""
        if deed[0] == "speak":
            return self.speak(deed[1], deed[2], deed[3])
        if deed[0] == "hear":
            keys = deed[2:]
            return self.hear(deed[1], *keys)
        return self.watch(deed[1], deed[2])

    def deeds(self):
        """Return the list of the done deeds."""
        return list(self._deeds)

    def told(self):
        """Return the list of the index, the name and the verdict of each settling on a board."""
        return list(self._told)

    def undo(self):
        """Take back the last deed and return it."""
        if not self._deeds:
            raise NothingToUndo(0)
        stations, boards, calls, told = self._before.pop()
        self.stations[:] = stations
        self.boards[:] = boards
        self._calls = calls
        self._told = told
        return self._deeds.pop()

    def tried(self, *deeds):
        """Do the deeds, return the list of the rows of all stations then, and take the deeds back."""
        many = len(self._deeds)
        try:
            for deed in deeds:
                self.do(deed)
        except GrowsError:
            self._return_to(many)
            raise
        rows = [station.row for station in self.stations]
        self._return_to(many)
        return rows

    def _return_to(self, many):
        """Take back the deeds behind the first so many."""
        while len(self._deeds) > many:
            self.undo()

    def _kept(self):
        """Return copies of what a deed may change."""
        stations = [station.copied() for station in self.stations]
        boards = [board.copied() for board in self.boards]
        calls = {key: call for key, call in self._calls.items()}
        return stations, boards, calls, list(self._told)

    def _end(self, deed, before):
        """Keep the deed and what there was before it, and let all boards look."""
        self._deeds.append(deed)
        self._before.append(before)
        for index, board in enumerate(self.boards):
            for name, found in board.look(self.stations[index].row):
                self._told.append((index, name, found))
