"""Journals: the lines that tell of a day, and days that are made from them."""

from stillgrows.calls import MOST_STATIONS
from stillgrows.days import Day
from stillgrows.digits import read_number
from stillgrows.errors import GrowsError, InvalidCommand, InvalidText
from stillgrows.lots import Lot
from stillgrows.rules import Rule
from stillgrows.sayings import Saying
from stillgrows.words import is_group, is_letters, row_text

MOST_LETTERS = 12


def is_name(text):
    """Tell whether the text is a name of a watched saying."""
    return 1 <= len(text) <= MOST_LETTERS and is_letters(text)


def key_text(key):
    """Return the text of the key of a call."""
    return f"{key[0]}.{key[1]}"


def read_key(word):
    """Return the key that the word writes; one with NO_NUMBER if it writes none."""
    station, _, number = word.partition(".")
    return read_number(station), read_number(number)


def orders_text(orders):
    """Return the texts of the lots of orders."""
    return ", ".join([lot.text() for lot in orders])


def deed_text(deed):
    """Return the line of the deed."""
    if deed[0] == "speak":
        return f"speak {deed[1]} {deed[2]} {deed[3]}"
    if deed[0] == "hear":
        return " ".join(["hear", str(deed[1])] + [key_text(key) for key in deed[2:]])
    return f"watch {deed[1]} {deed[2].text()}"


def journal(day):
    """Return the journal of the day."""
    orders = "no orders" if day.orders is None else "orders " + orders_text(day.orders)
    opening = [f"day {day.count} {row_text(day.start)} {day.rule.text()}", f"lot {day.lot.text()}", orders]
    return opening + [deed_text(deed) for deed in day.deeds()]


def read_speak(words):
    """Return the deed of the words, or None if they do not have its form."""
    if len(words) != 4 or not is_group(words[3]):
        return None
    index, gap = read_number(words[1]), read_number(words[2])
    return ("speak", index, gap, words[3]) if index >= 0 and gap >= 0 else None


def read_hear(words):
    """Return the deed of the words, or None if they do not have its form."""
    index = read_number(words[1]) if len(words) > 1 else -1
    keys = [read_key(word) for word in words[2:]]
    if index < 0 or not all([station >= 0 and number >= 0 for station, number in keys]):
        return None
    return ("hear", index) + tuple(keys)


def read_watch(words):
    """Return the deed of the words, or None if they do not have its form."""
    if len(words) < 3 or not is_name(words[1]):
        return None
    try:
        return "watch", words[1], Saying.read(" ".join(words[2:]))
    except InvalidText:
        return None


READERS = {"speak": read_speak, "hear": read_hear, "watch": read_watch}


def read_deed(line):
    """Return the deed that the line writes, or raise InvalidCommand."""
    words = line.split(" ")
    deed = None
    if words[0] in READERS:
        reader = READERS[words[0]]
        deed = reader(words)
    if deed is None:
        raise InvalidCommand(line)
    return deed


def read_opening(line):
    """Return the number of stations, the opening row and the rule that the first line of a journal writes."""
    words = line.split(" ")
    if len(words) != 6 or words[0] != "day" or not (words[2] == "-" or is_group(words[2])):
        raise InvalidCommand(line)
    count = read_number(words[1])
    if not 1 <= count <= MOST_STATIONS:
        raise InvalidCommand(line)
    try:
        rule = Rule.read(" ".join(words[3:]))
    except InvalidText:
        raise InvalidCommand(line) from None
    return count, "" if words[2] == "-" else words[2], rule


def read_lot(line):
    """Return the lot that the second line of a journal writes."""
    if not line.startswith("lot "):
        raise InvalidCommand(line)
    try:
        return Lot.read(line[4:])
    except InvalidText:
        raise InvalidCommand(line) from None


def read_orders(line):
    """Return the list of the orders that the third line of a journal writes, or None for no orders."""
    if line == "no orders":
        return None
    if not line.startswith("orders "):
        raise InvalidCommand(line)
    try:
        return [Lot.read(text) for text in line[7:].split(", ")]
    except InvalidText:
        raise InvalidCommand(line) from None


def read_journal(lines):
    """Return a new day with the deeds of the lines, or raise InvalidCommand with the first bad line."""
    first, second, third = (list(lines[:3]) + [""] * 3)[:3]
    count, start, rule = read_opening(first)
    lot = read_lot(second)
    orders = read_orders(third)
    try:
        day = Day(count, start, rule, lot, orders=orders)
    except GrowsError:
        raise InvalidCommand(third) from None
    for line in lines[3:]:
        try:
            day.do(read_deed(line))
        except GrowsError:
            raise InvalidCommand(line) from None
    return day
