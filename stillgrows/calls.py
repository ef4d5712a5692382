"""Calls: each lets a group join at an anchor."""

from stillgrows.digits import read_number
from stillgrows.errors import InvalidCall, InvalidText
from stillgrows.stamps import Stamp
from stillgrows.words import is_group

RIM = (None, 0)
MOST_STATIONS = 6


def is_good_anchor(anchor, seen):
    """Tell whether the anchor may be one of a call that has seen so many calls."""
    key, place = anchor
    if key is None:
        return place >= 0
    station, number = key
    return 0 <= station < len(seen) and 1 <= number <= seen[station] and place >= 1


def are_good_parts(station, seen, group, anchor):
    """Tell whether the parts of a call are good."""
    if not 1 <= len(seen) <= MOST_STATIONS or not all([count >= 0 for count in seen]):
        return False
    return 0 <= station < len(seen) and is_group(group) and is_good_anchor(anchor, seen)


def anchor_text(anchor):
    """Return the text of an anchor."""
    key, place = anchor
    if key is None:
        return f"start:{place}"
    return f"{key[0]}.{key[1]}:{place}"


def read_anchor(word):
    """Return the anchor that the word writes; one that is not good if it writes none."""
    name, _, place = word.partition(":")
    if name == "start":
        return None, read_number(place)
    station, _, number = name.partition(".")
    return (read_number(station), read_number(number)), read_number(place)


class Call:
    """A call of a station, with the counts of the calls that it knows, its group and its anchor."""

    def __init__(self, station, seen, group, anchor=(None, 0)):
        counts = tuple(seen)
        if not are_good_parts(station, counts, group, anchor):
            raise InvalidCall((station, counts, group, anchor))
        self.station = station
        self.seen = counts
        self.group = group
        self.anchor = anchor
        self.number = counts[station] + 1
        self.clock = sum(counts) + 1
        self.key = (station, self.number)

    @classmethod
    def read(cls, text):
        """Return the call that the text writes, or raise InvalidText."""
        words = text.split(" ")
        if len(words) != 4:
            raise InvalidText(text)
        seen = [read_number(count) for count in words[1].split(".")]
        try:
            return cls(read_number(words[0]), seen, words[2], read_anchor(words[3]))
        except InvalidCall:
            raise InvalidText(text) from None

    @property
    def stamp(self):
        """The stamp of the call."""
        return Stamp(self.clock, self.station, self.number)

    def text(self):
        """Return the text of the call."""
        counts = ".".join([str(count) for count in self.seen])
        return f"{self.station} {counts} {self.group} {anchor_text(self.anchor)}"

    def __eq__(self, other):
        return (isinstance(other, Call) and self.station == other.station and self.seen == other.seen
                and self.group == other.group and self.anchor == other.anchor)


def in_stamp_order(calls):
    """Return the calls in ascending order of their stamps, as a new list."""
    ordered = []
    for call in calls:
        at = len(ordered)
        while at > 0 and call.stamp < ordered[at - 1].stamp:
            at -= 1
        ordered.insert(at, call)
    return ordered
