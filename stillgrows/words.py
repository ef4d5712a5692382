"""Alphabets, groups and rows, which are strings of small letters."""

from stillgrows.errors import InvalidGroup, InvalidSigns, UnknownSign

LETTERS = "abcdefghijklmnopqrstuvwxyz"
MOST_SIGNS = 4


def is_letters(text):
    """Tell whether each character is a small letter; so it is for the empty string."""
    return all([sign in LETTERS for sign in text])


def check_signs(signs):
    """Return the alphabet, or raise InvalidSigns."""
    ascending = all([signs[k] < signs[k + 1] for k in range(len(signs) - 1)])
    if not 1 <= len(signs) <= MOST_SIGNS or not is_letters(signs) or not ascending:
        raise InvalidSigns(signs)
    return signs


def is_group(text):
    """Tell whether the text is a group."""
    return text != "" and is_letters(text)


def check_group(group):
    """Return the group, or raise InvalidGroup."""
    if not is_group(group):
        raise InvalidGroup(group)
    return group


def check_row(row, signs):
    """Return the row, or raise UnknownSign with its first character that is not in `signs`."""
    for sign in row:
        if sign not in signs:
            raise UnknownSign(sign)
    return row


def row_text(row):
    """Return the row as lines of texts show it."""
    return row or "-"


def turned(row):
    """Return the row read from its end."""
    return row[::-1]


def renamed(row, old, new):
    """Return the row in which each sign of `old` has become the sign of `new` at its index."""
    return "".join([new[old.find(sign)] if sign in old else sign for sign in row])


def in_row_order(rows):
    """Return the different rows of a list in row order, as a list."""
    alphabetical = sorted(set([str(row) for row in rows]))
    return sorted(alphabetical, key=len)


def rows_up_to(signs, longest):
    """Yield all rows over the signs with at most `longest` signs, in row order."""
    level = [""]
    yield ""
    for _ in range(longest):
        level = [row + sign for row in level for sign in signs]
        yield from level
