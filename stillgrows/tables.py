"""Tables of states: which states are reached, which can be merged, how they are numbered.

The operators of sayings call these functions, so none of them changes what it is passed.
"""


def reached_states(table, start):
    """Return the states that are reached from the start, in breadth-first order."""
    order = [start]
    found = {start: True}
    at = 0
    while at < len(order):
        entry = table[order[at]]
        for state in entry:
            if state not in found:
                found[state] = True
                order.append(state)
        at += 1
    return order


def canonical(table, marks):
    """Return the canonical table and its marks, both as tuples."""
    order = reached_states(table, 0)
    place = {old: k for k, old in enumerate(order)}
    trimmed = [[place[to] for to in table[old]] for old in order]
    blocks = block_numbers(trimmed, [marks[old] for old in order])
    # The trimmed states stand in the order in which they are first reached, so the
    # first state of each block is the one by which the block is first reached.
    number = {}
    firsts = []
    for state, block in enumerate(blocks):
        if block not in number:
            number[block] = len(firsts)
            firsts.append(state)
    merged = [tuple([number[blocks[to]] for to in trimmed[first]]) for first in firsts]
    return tuple(merged), tuple([marks[order[first]] for first in firsts])


def sources_by_column(table):
    """Return for each sign and each state the list of the states that the sign leads there."""
    columns = []
    for column in range(len(table[0])):
        sources = [[] for _ in table]
        for state, entry in enumerate(table):
            sources[entry[column]].append(state)
        columns.append(sources)
    return columns


def hits_by_block(members, sources, blocks):
    """Return, for each block that has some, the list of its states that lead to a member."""
    hits = {}
    for member in members:
        for state in sources[member]:
            block = blocks[state]
            if block not in hits:
                hits[block] = []
            hits[block].append(state)
    return hits


def block_numbers(table, marks):
    """Return a block for each state; in one block are the states that can be merged.

    This is Hopcroft's algorithm: its time grows little faster than the table, also
    where rounds over all states would be as many as the states.
    """
    columns = sources_by_column(table)
    blocks = [0 if mark else 1 for mark in marks]
    marked = [state for state, mark in enumerate(marks) if mark]
    # A state that has left a block stays in its list until the block is taken up.
    lists = [marked, [state for state, mark in enumerate(marks) if not mark]]
    sizes = [len(marked), len(marks) - len(marked)]
    waiting = [0, 1]
    waits = [True, True]
    while waiting:
        splitter = waiting.pop()
        waits[splitter] = False
        members = [state for state in lists[splitter] if blocks[state] == splitter]
        lists[splitter] = members
        for sources in columns:
            hits = hits_by_block(members, sources, blocks)
            divided = [block for block in hits if len(hits[block]) < sizes[block]]
            for block in divided:
                fresh = len(lists)
                for state in hits[block]:
                    blocks[state] = fresh
                lists.append(hits[block])
                sizes.append(len(hits[block]))
                sizes[block] = sizes[block] - sizes[fresh]
                waits.append(False)
                added = fresh if waits[block] or sizes[fresh] <= sizes[block] else block
                waits[added] = True
                waiting.append(added)
    return blocks


def paired(first, second):
    """Return the pairs of states that rows lead to in two tables, and the table of the pairs.

    The pairs stand in breadth-first order, and each entry has the indexes of pairs.
    """
    pairs = [(0, 0)]
    number = {(0, 0): 0}
    table = []
    while len(table) < len(pairs):
        p, q = pairs[len(table)]
        entry = []
        for pair in zip(first[p], second[q]):
            if pair not in number:
                number[pair] = len(pairs)
                pairs.append(pair)
            entry.append(number[pair])
        table.append(entry)
    return pairs, table
