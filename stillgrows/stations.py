"""Stations of a procession, which hear of the calls late."""

from stillgrows.calls import Call, in_stamp_order
from stillgrows.errors import ClashingCalls, NotInLot, UnknownStation, WrongCount
from stillgrows.placing import anchor_at, placed, row_of
from stillgrows.spreads import plain_spread
from stillgrows.verdicts import verdict


def check_station(index, count):
    """Raise UnknownStation if there is no station with the index."""
    if not 0 <= index < count:
        raise UnknownStation(index)


def verdict_for(station, row, saying):
    """Return the verdict of a row for the saying and the judged lot of the station."""
    return verdict(plain_spread(saying, station.judged_lot()), row)


class Station:
    """A station with the calls that it has heard and those that wait at it."""

    def __init__(self, index, count, start, rule, lot):
        check_station(index, count)
        self.index = index
        self.count = count
        self.start = start
        self.rule = rule
        self.lot = lot
        self._heard = []
        # The waiting calls by their keys.
        self._late = {}
        self._row = start

    @property
    def counts(self):
        """How many calls of each station have been heard."""
        return tuple([len([call for call in self._heard if call.station == index]) for index in range(self.count)])

    @property
    def heard(self):
        """The heard calls in ascending order of their stamps."""
        return list(self._heard)

    @property
    def waiting(self):
        """The number of calls that wait."""
        return len(self._late)

    @property
    def row(self):
        """The row of the heard calls."""
        return self._row

    def layout(self):
        """Return the layout of the heard calls."""
        return placed(self.rule, self.start, self._heard)

    def judged_lot(self):
        """Return the lot by which the row grows to the rows of all stations that have heard more."""
        return self.lot if self.rule.link == "whole" else self.lot.scattered()

    def tell(self, saying):
        """Return the verdict of the row for the saying and the judged lot."""
        return verdict_for(self, self._row, saying)

    def speak(self, gap, group):
        """Make the call of this station that lets the group join at the gap, and return it."""
        anchor = anchor_at(self.rule, self.layout(), gap)
        if group not in self.lot:
            raise NotInLot(group)
        call = Call(self.index, self.counts, group, anchor)
        if call.key in self._late:
            raise ClashingCalls(call.key)
        self._take([call])
        return call

    def hear(self, *calls):
        """Take the calls; return how many calls are newly heard."""
        self._check(calls)
        return self._take(calls)

    def copied(self):
        """Return a new station that has heard the same, and at which the same calls wait."""
        other = Station(self.index, self.count, self.start, self.rule, self.lot)
        other._heard = list(self._heard)
        other._late = {key: call for key, call in self._late.items()}
        other._row = self._row
        return other

    def _check(self, calls):
        """Raise the error of the first call that may not be handed to the station."""
        known = {call.key: call for call in self._heard + list(self._late.values())}
        for call in calls:
            if len(call.seen) != self.count:
                raise WrongCount(len(call.seen))
            if call.group not in self.lot:
                raise NotInLot(call.group)
            if known.setdefault(call.key, call) != call:
                raise ClashingCalls(call.key)

    def _take(self, calls):
        """Hear the calls, and those that wait, as far as they are ready; return how many are heard."""
        heard = {call.key: call for call in self._heard}
        late = dict(self._late)
        for call in calls:
            if call.key not in heard:
                late[call.key] = call
        ready = [call for call in late.values() if self._is_ready(call, heard)]
        while ready:
            for call in ready:
                heard[call.key] = late.pop(call.key)
            ready = [call for call in late.values() if self._is_ready(call, heard)]
        many = len(heard) - len(self._heard)
        ordered = in_stamp_order(list(heard.values()))
        self._row = row_of(self.rule, self.start, ordered)
        self._heard = ordered
        self._late = late
        return many

    def _is_ready(self, call, heard):
        """Tell whether the calls that the call has seen are heard, and the sign of its anchor is there."""
        # The heard calls of one station have the numbers from 1 on without a gap.
        if not all([number == 0 or (index, number) in heard for index, number in enumerate(call.seen)]):
            return False
        key, place = call.anchor
        if key is None:
            return place <= len(self.start)
        return key in heard and place <= len(heard[key].group)
