"""The row that an opening row and calls make under a rule of placing."""

from stillgrows.calls import RIM, in_stamp_order
from stillgrows.errors import ClashingCalls, GapOutOfRange, MissingAnchor, MixesGroups
from stillgrows.growths import Growth


def different_calls(calls):
    """Return the different calls in ascending order of their stamps, or raise ClashingCalls."""
    found = {}
    least = None
    for call in calls:
        if call.key not in found:
            found[call.key] = call
        elif call != found[call.key] and (least is None or call.key < least):
            least = call.key
    if least is not None:
        raise ClashingCalls(least)
    return in_stamp_order(list(found.values()))


def signs_of(key, word):
    """Return the list of the signs of a group or of the opening row, whose key is None."""
    return [(key, place) for place in range(1, len(word) + 1)]


def check_anchors(start, calls):
    """Raise MissingAnchor for the first call whose anchor is not there when it is looked at."""
    there = {RIM: True}
    for sign in signs_of(None, start):
        there[sign] = True
    for call in calls:
        if call.anchor not in there:
            raise MissingAnchor(call.key)
        for sign in signs_of(call.key, call.group):
            there[sign] = True


def checked_calls(start, calls):
    """Return the different calls in ascending order of their stamps; raise what a layout raises."""
    ordered = different_calls(calls)
    check_anchors(start, ordered)
    return ordered


def in_writing(rule, signs):
    """Return the signs of one word in the order in which the rule writes them, or back from it."""
    return signs if rule.side == "after" else signs[::-1]


def hung_signs(rule, calls):
    """Return the signs of calls that hang on one anchor, in the order in which they are written."""
    first_to_last = calls if rule.order == "oldest" else calls[::-1]
    words = [in_writing(rule, signs_of(call.key, call.group)) for call in first_to_last]
    if rule.link == "whole":
        return [sign for word in words for sign in word]
    longest = max([len(word) for word in words], default=0)
    return [word[at] for at in range(longest) for word in words if at < len(word)]


def placed(rule, start, ordered):
    """Return the layout of calls that are checked and in order."""
    hanging = {}
    for call in ordered:
        hanging.setdefault(call.anchor, []).append(call)
    # The signs that are still to be written, the next one last.
    waiting = (hung_signs(rule, hanging.get(RIM, [])) + in_writing(rule, signs_of(None, start)))[::-1]
    written = []
    while waiting:
        sign = waiting.pop()
        written.append(sign)
        waiting.extend(hung_signs(rule, hanging.get(sign, []))[::-1])
    return in_writing(rule, written)


def layout(rule, start, calls):
    """Return the layout of the opening row and the calls."""
    return placed(rule, start, checked_calls(start, calls))


def row_of(rule, start, calls):
    """Return the row of the opening row and the calls."""
    ordered = checked_calls(start, calls)
    words = {None: start}
    for call in ordered:
        words[call.key] = call.group
    return "".join([words[key][place - 1] for key, place in placed(rule, start, ordered)])


def anchor_at(rule, signs_there, gap):
    """Return the sign at which a new call joins at the gap, or the rim."""
    if not 0 <= gap <= len(signs_there):
        raise GapOutOfRange(gap)
    at = gap - 1 if rule.side == "after" else gap
    return signs_there[at] if 0 <= at < len(signs_there) else RIM


def growth_from(rule, start, calls, more):
    """Return the growth from the row of `calls` to the row of `calls` and `more` together."""
    if rule.link == "loose":
        raise MixesGroups(rule.text())
    known = checked_calls(start, calls)
    row = row_of(rule, start, known)
    joins = []
    for call in checked_calls(start, list(calls) + list(more)):
        if call not in known:
            known = in_stamp_order(known + [call])
            joins.append((placed(rule, start, known).index((call.key, 1)), call.group))
    return Growth(row, joins)
