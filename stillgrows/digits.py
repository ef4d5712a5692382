"""Numbers in texts: decimal digits without leading zeros, at most nine."""

DIGITS = "0123456789"
MOST_DIGITS = 9
NO_NUMBER = -1


def read_number(word):
    """Return the number that the word writes, or NO_NUMBER if it writes none.

    No gap, state, count or place is negative, so a reader can pass NO_NUMBER on
    to the check of the object that it makes.
    """
    if word == "" or len(word) > MOST_DIGITS or not all([sign in DIGITS for sign in word]):
        return NO_NUMBER
    if word[0] == "0" and word != "0":
        return NO_NUMBER
    return int(word)
