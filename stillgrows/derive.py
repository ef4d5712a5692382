"""How one row grows to another by a lot: with how few joins, and in how many ways."""

from stillgrows.nests import read_bracketed

# A way cell tells of a piece of the target: with how few joins it can be made, in how
# many ways, and the bracketed text of a way with the fewest joins.
NO_WAY = (0, 0, "")
EMPTY_WAY = (0, 1, "")


def with_both(cell, left, right):
    """Return the cell to which the ways are added that make one piece and then the other."""
    fewest, ways, _ = cell
    more = left[1] * right[1]
    if more == 0:
        return cell
    joins = left[0] + right[0]
    if ways > 0 and fewest <= joins:
        return fewest, ways + more, cell[2]
    return joins, ways + more, left[2] + right[2]


def framed(cell, before, behind, joins):
    """Return the cell with signs before and behind its piece, and with more joins."""
    fewest, ways, text = cell
    return (fewest + joins, ways, before + text + behind) if ways else NO_WAY


def word_cell(word, begin, end, target, fillings, words):
    """Return the cell of the piece that begins with the word's first sign and ends with its last one.

    Between the signs of the word stand fillings. `words` has the cells of the shorter
    pieces for the word without its first sign.
    """
    if target[begin] != word[0] or target[end - 1] != word[-1]:
        return NO_WAY
    if len(word) == 1:
        return (0, 1, word) if end == begin + 1 else NO_WAY
    cell = NO_WAY
    for middle in range(begin + 1, end):
        cell = with_both(cell, fillings[begin + 1, middle], words[word[1:], middle, end])
    return framed(cell, word[0], "", 0)


def endings(words):
    """Return the list of all endings of the words, each once."""
    return list({word[at:]: True for word in words for at in range(len(word))})


def target_cells(target, lot, start):
    """Return the cells of the fillings and of the words for all pieces of the target."""
    fillings = {(at, at): EMPTY_WAY for at in range(len(target) + 1)}
    words = {}
    parts = endings(list(lot) + [start])
    pieces = [(at, at + many) for many in range(1, len(target) + 1) for at in range(len(target) + 1 - many)]
    # The first group of a filling ends somewhere; what stands behind it is a filling.
    firsts = {}
    for begin, end in pieces:
        for word in parts:
            words[word, begin, end] = word_cell(word, begin, end, target, fillings, words)
        one = NO_WAY
        for group in lot:
            one = with_both(one, EMPTY_WAY, framed(words[group, begin, end], "(", ")", 1))
        firsts[begin, end] = one
        cell = NO_WAY
        for middle in range(begin + 1, end + 1):
            cell = with_both(cell, firsts[begin, middle], fillings[middle, end])
        fillings[begin, end] = cell
    return fillings, words


def growth_cell(start, target, lot):
    """Return the cell of all growths in order by the lot from the start row to the target."""
    if len(start) > len(target):
        return NO_WAY
    fillings, words = target_cells(target, lot, start)
    size = len(target)
    if start == "":
        return fillings[0, size]
    whole = NO_WAY
    for begin in range(size):
        behind = NO_WAY
        for end in range(begin + 1, size + 1):
            behind = with_both(behind, words[start, begin, end], fillings[end, size])
        whole = with_both(whole, fillings[0, begin], behind)
    return whole


def fewest_joins(start, target, lot):
    """Return the distance, or None if there is none."""
    fewest, ways, _ = growth_cell(start, target, lot)
    return fewest if ways else None


def count_growths(start, target, lot):
    """Return the number of growths in order by the lot from the start row to the target."""
    return growth_cell(start, target, lot)[1]


def find_growth(start, target, lot, *, most=None):
    """Return a growth in order with as many joins as the distance, or None."""
    fewest, ways, text = growth_cell(start, target, lot)
    if ways == 0 or (most is not None and fewest > most):
        return None
    return read_bracketed(text)


def comes(start, target, lot, *, most=None):
    """Tell whether there is a distance, and one of at most `most` where this is an integer."""
    fewest = fewest_joins(start, target, lot)
    return fewest is not None and (most is None or fewest <= most)
