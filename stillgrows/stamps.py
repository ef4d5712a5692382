"""Stamps: when and by which station a call was made."""


class Stamp:
    """The clock of a call, its station, and the number of the call at this station."""

    def __init__(self, clock, station, number):
        self.clock = clock
        self.station = station
        self.number = number

    def __eq__(self, other):
        return (isinstance(other, Stamp) and self.clock == other.clock
                and self.station == other.station and self.number == other.number)

    def __lt__(self, other):
        if not isinstance(other, Stamp):
            return NotImplemented
        return (self.clock, self.station, self.number) < (other.clock, other.station, other.number)
