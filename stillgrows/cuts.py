"""Cuts: which calls are known, also what a station knows that other stations know."""

from stillgrows.errors import WrongCount
from stillgrows.placing import row_of
from stillgrows.spreads import plain_spread
from stillgrows.stations import check_station, verdict_for
from stillgrows.verdicts import verdict


def past(call):
    """Return the counts of the calls that the call has seen, and of itself."""
    return tuple([number + 1 if index == call.station else number for index, number in enumerate(call.seen)])


def check_lengths(first, others):
    """Raise WrongCount with the number of entries of the first cut that has not as many as `first`."""
    for cut in others:
        if len(cut) != len(first):
            raise WrongCount(len(cut))


def joined_counts(first, *others):
    """Return the tuple of the greatest number of the cuts at each index."""
    check_lengths(first, others)
    cuts = [first] + list(others)
    return tuple([max([int(cut[index]) for cut in cuts]) for index in range(len(first))])


def common_counts(first, *others):
    """Return the tuple of the least number of the cuts at each index."""
    check_lengths(first, others)
    cuts = [first] + list(others)
    return tuple([min([int(cut[index]) for cut in cuts]) for index in range(len(first))])


def is_within(counts, other):
    """Tell whether no number of `counts` is greater than the number of `other` at the same index."""
    check_lengths(counts, [other])
    return all([number <= most for number, most in zip(counts, other)])


def includes(counts, call):
    """Tell whether the cut includes the call."""
    return call.number <= counts[call.station]


def calls_within(calls, counts):
    """Return the list of the calls that the cut includes."""
    return [call for call in calls if includes(counts, call)]


def calls_beyond(calls, counts):
    """Return the list of the calls that the cut does not include."""
    return [call for call in calls if not includes(counts, call)]


def is_closed_cut(calls, counts):
    """Tell whether all calls that the cut includes, and all that these have seen, are among the calls and in it."""
    within = calls_within(calls, counts)
    keys = {call.key: True for call in within}
    if not all([(index, number) in keys for index, many in enumerate(counts) for number in range(1, many + 1)]):
        return False
    return all([is_within(call.seen, counts) for call in within])


def known_past(station, counts, index):
    """Return the past of the last call of the station with the index that the cut includes, or zeros."""
    calls = [call for call in station.heard if call.key == (index, counts[index])]
    return past(calls[0]) if calls else (0,) * station.count


def known_counts(station, path):
    """Return what the station knows along the path."""
    for index in path:
        check_station(index, station.count)
    counts = station.counts
    own = True
    for index in path:
        own = own and index == station.index
        if not own:
            counts = known_past(station, counts, index)
    return counts


def known_row(station, path):
    """Return the row of the heard calls that the station knows to be known along the path."""
    counts = known_counts(station, path)
    return row_of(station.rule, station.start, calls_within(station.heard, counts))


def known_verdict(station, path, saying):
    """Return the verdict of the row along the path for the saying and the judged lot of the station."""
    return verdict_for(station, known_row(station, path), saying)


def shared_counts(station, depth):
    """Return the common counts of what the station knows along all paths of `depth` indexes."""
    others = [index for index in range(station.count) if index != station.index]
    # Along the path of the own index alone, and along all other paths so far.
    own = station.counts
    found = {}
    for _ in range(depth):
        longer = {known_past(station, own, index): True for index in others}
        for counts in list(found):
            for index in range(station.count):
                longer[known_past(station, counts, index)] = True
        found = longer
    cuts = list(found)
    return common_counts(own, *cuts)


def is_seen(call, others):
    """Tell whether one of the other calls has seen the call."""
    return any([call.number <= other.seen[call.station] for other in others])


def settling_counts(station, saying):
    """Return the counts of a least cut at which the told verdict is settled, or None if it is open."""
    told = station.tell(saying)
    if told == "open":
        return None
    spread = plain_spread(saying, station.judged_lot())
    left = station.heard
    for call in station.heard[::-1]:
        others = [other for other in left if other.key != call.key]
        if not is_seen(call, others) and verdict(spread, row_of(station.rule, station.start, others)) == told:
            left = others
    return tuple([len([call for call in left if call.station == index]) for index in range(station.count)])


def news_for(station, index):
    """Return the list of the heard calls that the station does not know the other one to have heard."""
    return calls_beyond(station.heard, known_counts(station, (index,)))
