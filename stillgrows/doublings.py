"""Growths at a pace: each join is one of a group or doubles a paced sign.

A relation is a list with one dict for each state: with how many joins it leads the state
to each of the states that it leads to.
"""

from stillgrows.closures import check_lot
from stillgrows.growths import Growth
from stillgrows.words import check_row


def doublings(row, paced):
    """Return the list of the joins that double one paced sign of the row."""
    return [(at + 1, sign) for at, sign in enumerate(row) if sign in paced]


def slots_of(row, gap):
    """Return the gaps and the signs of a row that stands at the gap, in their order.

    A slot is a tuple of the index of a sign and this sign, or of a gap and the empty string.
    """
    slots = [(gap, "")]
    for at, sign in enumerate(row):
        slots.extend([(gap + at, sign), (gap + at + 1, "")])
    return slots


def led_through(costs, relation):
    """Return with how many joins the relation leads on from states that are reached with these joins."""
    best = {}
    for before, joins in costs.items():
        for behind, more in relation[before].items():
            if behind not in best or joins + more < best[behind]:
                best[behind] = joins + more
    return best


def with_others(costs, others, more):
    """Return the least joins of both, where the other ones take so many more."""
    best = dict(costs)
    for state, joins in others.items():
        if state not in best or joins + more < best[state]:
            best[state] = joins + more
    return best


class Paced:
    """With how few joins signs, groups and fillings at a pace lead from state to state."""

    def __init__(self, saying, lot, paced):
        self.paced = [sign for sign in saying.signs if sign in paced]
        self.steps = {sign: [{entry[at]: 0} for entry in saying.table] for at, sign in enumerate(saying.signs)}
        # For each sign the relation of it and its doublings, and for "" that of the fillings.
        self.relations = dict(self.steps)
        self.relations[""] = [{state: 0} for state in range(saying.size)]
        # For each group the relation of its join, with what joins in it.
        self.joined = {group: [] for group in lot}
        while self.cheapen():
            pass

    def cheapen(self):
        """Look for ways with fewer joins by those that are known; tell whether there are any."""
        relations = dict(self.relations)
        for group in list(self.joined):
            slots = slots_of(group, 0)[1:-1]
            ends = [self.layers(slots, state)[-1] for state in range(len(relations[""]))]
            self.joined[group] = [with_others({}, costs, 1) for costs in ends]
        for sign in self.paced:
            relations[sign] = [with_others(costs, self.doubled(costs, sign), 1) for costs in relations[sign]]
        for relation in self.joined.values():
            relations[""] = [with_others(costs, led_through(costs, relation), 0) for costs in relations[""]]
        cheaper = relations != self.relations
        self.relations = relations
        return cheaper

    def doubled(self, costs, sign):
        """Return the joins with which a filling and the sign once more lead on."""
        return led_through(led_through(costs, self.relations[""]), self.steps[sign])

    def layers(self, slots, start):
        """Return with how many joins each state is reached before the first slot and behind each one."""
        layers = [{start: 0}]
        for _, sign in slots:
            layers.append(led_through(layers[-1], self.relations[sign]))
        return layers

    def pieces(self, slots, start, last):
        """Return the slots on a cheapest way between the states, each with the states before and behind it."""
        layers = self.layers(slots, start)
        found = []
        state = last
        for at in range(len(slots) - 1, -1, -1):
            relation = self.relations[slots[at][1]]
            for before, joins in layers[at].items():
                if state in relation[before] and joins + relation[before][state] == layers[at + 1][state]:
                    found.append((slots[at], before, state))
                    break
            state = found[-1][1]
        return found[::-1]

    def last_group(self, start, last):
        """Return the last group of a cheapest filling between two different states, and the state before it."""
        for group, relation in self.joined.items():
            for before, joins in self.relations[""][start].items():
                if last in relation[before] and joins + relation[before][last] == self.relations[""][start][last]:
                    return group, before
        return None

    def last_doubling(self, sign, start, last):
        """Return the states before and behind the filling before the last doubling, on a cheapest way."""
        costs = self.relations[sign][start]
        for before, joins in costs.items():
            for behind, more in self.relations[""][before].items():
                if last in self.steps[sign][behind] and joins + more + 1 == costs[last]:
                    return before, behind
        return None


def joins_of(ways, slots, last):
    """Return the joins of a cheapest growth that leads state 0 through the slots to the last state.

    What stands further right is joined first, so that the gaps on the left stay as they are.
    """
    joins = []
    waiting = ways.pieces(slots, 0, last)
    while waiting:
        (at, sign), before, behind = waiting.pop()
        if ways.relations[sign][before][behind] == 0:
            continue
        if sign:
            inner, middle = ways.last_doubling(sign, before, behind)
            joins.append((at + 1, sign))
            waiting.extend([((at, sign), before, inner), ((at + 1, ""), inner, middle)])
        else:
            group, middle = ways.last_group(before, behind)
            joins.append((at, group))
            waiting.append(((at, ""), before, middle))
            waiting.extend(ways.pieces(slots_of(group, at)[1:-1], middle, behind))
    return joins


def paced_growth(saying, lot, paced, row, wanted):
    """Return a growth at the pace with as few joins as possible to a row that leads state 0 to a wanted state."""
    check_row(paced, saying.signs)
    check_lot(lot, saying.signs)
    slots = slots_of(check_row(row, saying.signs), 0)
    ways = Paced(saying, lot, paced)
    costs = ways.layers(slots, 0)[-1]
    found = [state for state in wanted if state in costs]
    if not found:
        return None
    fewest = min([int(costs[state]) for state in found])
    nearest = [state for state in found if costs[state] == fewest]
    return Growth(row, joins_of(ways, slots, nearest[0]))
