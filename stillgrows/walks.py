"""Where walks through the groups of a lot lead the states, and with how many joins.

A walk goes through a group from a state, before and behind each sign by fillings. The
groups are kept as a tree of their beginnings, the nodes of which are numbered from 0,
the empty beginning. A place is a state and a node: there stand the states in which the
walks from this state through this beginning can end. A set of states is a mask.
"""

from stillgrows.subsets import states_of, union_at, union_tables


def group_tree(groups, signs):
    """Return the branches of the tree of the beginnings of groups, and the groups at its nodes.

    A branch is a tuple of the column of a sign and the node behind it. At a node stands
    its group, or the empty string if no group ends there.
    """
    nodes = {"": 0}
    branches = [[]]
    ends = [""]
    for group in groups:
        for many in range(1, len(group) + 1):
            beginning = group[:many]
            if beginning not in nodes:
                nodes[beginning] = len(branches)
                branches[nodes[beginning[:-1]]].append((signs.index(beginning[-1]), len(branches)))
                branches.append([])
                ends.append("")
        ends[nodes[group]] = group
    return branches, ends


class Walks:
    """The ends of all walks by the least closed table that contains a given one.

    `columns` has for each sign the mask of the states behind each state, and `first` the
    masks of the table to which the walks through groups are added. A walk through a group
    costs `price` joins and the joins of its fillings.
    """

    def __init__(self, columns, first, groups, signs, price):
        self.branches, self.groups_at = group_tree(groups, signs)
        self.width = len(self.branches)
        self.price = price
        self.steps = [union_tables(masks) for masks in columns]
        places = len(first) * self.width
        # For each place the states at which walks end, and those that its last sign leads to.
        self.known = [0] * places
        self.entered = [0] * places
        # The same states by their costs.
        self.reached = [{} for _ in range(places)]
        self.begun = [{} for _ in range(places)]
        # For each state the places that a sign enters by it, with the costs so far.
        self.users = [[] for _ in first]
        self.waiting = {}
        for state, mask in enumerate(first):
            self.put(state * self.width, mask, 0)
        self.settle()

    def put(self, place, states, cost):
        """Let the states wait to be taken at the place with this cost."""
        states = states & ~self.known[place]
        if states:
            batch = self.waiting.setdefault(cost, {})
            batch[place] = batch.get(place, 0) | states

    def settle(self):
        """Take what waits, the least costs first, so that each state is taken at its least cost."""
        while self.waiting:
            cost = min([int(known) for known in self.waiting])
            batch = self.waiting[cost]
            while batch:
                for place in list(batch):
                    self.take(place, batch.pop(place), cost)
            self.waiting.pop(cost)

    def take(self, place, states, cost):
        """Let walks end at the states, and go on from there."""
        states = states & ~self.known[place]
        if states == 0:
            return
        self.known[place] = self.known[place] | states
        self.reached[place][cost] = self.reached[place].get(cost, 0) | states
        start, node = divmod(place, self.width)
        if node == 0:
            for user, before in self.users[start]:
                self.put(user, states, before + cost)
        elif self.groups_at[node]:
            self.put(start * self.width, states, cost + self.price)
        for column, behind in self.branches[node]:
            self.enter(start * self.width + behind, union_at(self.steps[column], states), cost)

    def enter(self, place, states, cost):
        """Let a sign lead walks to the states; what fills the gap behind them follows."""
        states = states & ~self.entered[place]
        self.entered[place] = self.entered[place] | states
        if states:
            self.begun[place][cost] = self.begun[place].get(cost, 0) | states
        for state in states_of(states):
            self.users[state].append((place, cost))
            for more, filled in self.reached[state * self.width].items():
                self.put(place, filled, cost + more)

    def filled(self, state):
        """Return for each cost the mask of the states to which the table leads the state with it."""
        return dict(self.reached[state * self.width])

    def closed(self):
        """Return the least closed table: for each state the mask of the states in its entry."""
        return self.known[::self.width]
