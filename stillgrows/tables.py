"""Tables of states: which states are reached, which can be merged, how they are numbered.

The operators of sayings call these functions, so none of them changes what it is passed.
"""

MOST_ROUNDS = 40


def reached_states(table, start):
    """Return the states that are reached from the start, in breadth-first order."""
    order = [start]
    found = {start: True}
    at = 0
    while at < len(order):
        entry = table[order[at]]
        for state in entry:
            if state not in found:
                found[state] = True
                order.append(state)
        at += 1
    return order


def canonical(table, marks):
    """Return the canonical table and its marks, both as tuples."""
    order = reached_states(table, 0)
    place = {old: k for k, old in enumerate(order)}
    trimmed = [[place[to] for to in table[old]] for old in order]
    blocks = block_numbers(trimmed, [marks[old] for old in order])
    # The trimmed states stand in the order in which they are first reached, so the
    # first state of each block is the one by which the block is first reached.
    number = {}
    firsts = []
    for state, block in enumerate(blocks):
        if block not in number:
            number[block] = len(firsts)
            firsts.append(state)
    merged = [tuple([number[blocks[to]] for to in trimmed[first]]) for first in firsts]
    return tuple(merged), tuple([marks[order[first]] for first in firsts])


def grouped(numbers, many):
    """Return, for each number below `many`, the ascending list of the indexes that have it.

    The indexes are brought side by side by sorting and cut apart, because an operator may
    not put them one by one into lists that stand in another list.
    """
    width = len(numbers)
    ordered = sorted([int(number * width + at) for at, number in enumerate(numbers)])
    counts = [0 for _ in range(many)]
    for number in numbers:
        counts[number] = counts[number] + 1
    groups = []
    begin = 0
    for count in counts:
        groups.append([code % width for code in ordered[begin:begin + count]])
        begin = begin + count
    return groups


def sources_by_column(table):
    """Return for each sign and each state the list of the states that the sign leads there."""
    return [grouped([entry[column] for entry in table], len(table)) for column in range(len(table[0]))]


def hits_by_block(members, sources, blocks):
    """Return, for each block that has some, the list of its states that lead to a member."""
    states = [state for member in members for state in sources[member]]
    places = {}
    for state in states:
        if blocks[state] not in places:
            places[blocks[state]] = len(places)
    if len(places) == 1:
        return {block: states for block in places}
    groups = grouped([places[blocks[state]] for state in states], len(places))
    return {block: [states[at] for at in groups[place]] for block, place in places.items()}


def numbered(columns):
    """Return the number of each row of the columns, and how many different rows there are.

    Equal rows have one number; the numbers are in the order in which they are first found.
    """
    numbers = {}
    found = []
    for form in zip(*columns):
        if form not in numbers:
            numbers[form] = len(numbers)
        found.append(numbers[form])
    return found, len(numbers)


def divided_blocks(table, blocks, many):
    """Return the blocks, so many, divided until the states of one block can be merged.

    This is Hopcroft's algorithm, which needs no rounds over all states.
    """
    columns = sources_by_column(table)
    parts = list(blocks)
    # A state that has left a block stays in its list until the block is taken up.
    lists = list(grouped(blocks, many))
    sizes = [len(states) for states in lists]
    waiting = [block for block in range(len(lists))]
    waits = [True for _ in lists]
    while waiting:
        splitter = waiting.pop()
        waits[splitter] = False
        members = [state for state in lists[splitter] if parts[state] == splitter]
        lists[splitter] = members
        for sources in columns:
            hits = hits_by_block(members, sources, parts)
            divided = [block for block in hits if len(hits[block]) < sizes[block]]
            for block in divided:
                fresh = len(lists)
                for state in hits[block]:
                    parts[state] = fresh
                lists.append(hits[block])
                sizes.append(len(hits[block]))
                sizes[block] = sizes[block] - sizes[fresh]
                waits.append(False)
                added = fresh if waits[block] or sizes[fresh] <= sizes[block] else block
                waits[added] = True
                waiting.append(added)
    return parts


def block_numbers(table, marks):
    """Return a block for each state; in one block are the states that can be merged.

    In each round a block is divided where the signs lead its states to different blocks.
    Mostly a few rounds are enough. If they are not, there could be as many rounds as
    states, so what is left is divided in another way.
    """
    columns = [[entry[column] for entry in table] for column in range(len(table[0]))]
    kinds, mixed_blocks = numbered([marks])
    blocks = list(kinds)
    unused = mixed_blocks
    # A state that is alone in its block needs no more rounds.
    mixed = list(range(len(table)))
    visits = 0
    while visits <= MOST_ROUNDS * len(table):
        visits = visits + len(mixed)
        forms = [[blocks[state] for state in mixed]]
        for column in columns:
            forms.append([blocks[column[state]] for state in mixed])
        found, many = numbered(forms)
        if many == mixed_blocks:
            return blocks
        sizes = [0 for _ in range(many)]
        for state, number in zip(mixed, found):
            sizes[number] = sizes[number] + 1
            blocks[state] = unused + number
        mixed = [state for state, number in zip(mixed, found) if sizes[number] > 1]
        mixed_blocks = many - len([size for size in sizes if size == 1])
        unused = unused + many
    dense, many = numbered([blocks])
    return divided_blocks(table, dense, many)


def paired(first, second):
    """Return the pairs of states that rows lead to in two tables, and the table of the pairs.

    The pairs stand in breadth-first order, and each entry has the indexes of pairs.
    """
    pairs = [(0, 0)]
    number = {(0, 0): 0}
    table = []
    while len(table) < len(pairs):
        p, q = pairs[len(table)]
        entry = []
        for pair in zip(first[p], second[q]):
            if pair not in number:
                number[pair] = len(pairs)
                pairs.append(pair)
            entry.append(number[pair])
        table.append(entry)
    return pairs, table
