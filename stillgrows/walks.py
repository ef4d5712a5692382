"""Where walks through the groups of a lot lead the states, and with how many joins.

A walk goes through a group from a state, before and behind each sign by fillings. The
groups are kept as a tree of their beginnings, the nodes of which are numbered from 0,
the empty beginning. A place is a state and a node: there stand the states in which the
walks from this state through this beginning can end. A set of states is a mask.
"""

from stillgrows.subsets import states_of, union_at, union_tables


def group_tree(groups, signs):
    """Return the branches of the tree of the beginnings of groups, and the groups at its nodes.

    A branch is a tuple of the column of a sign and the node behind it. At a node stands
    its group, or the empty string if no group ends there.
    """
    nodes = {"": 0}
    branches = [[]]
    ends = [""]
    for group in groups:
        for many in range(1, len(group) + 1):
            beginning = group[:many]
            if beginning not in nodes:
                nodes[beginning] = len(branches)
                branches[nodes[beginning[:-1]]].append((signs.index(beginning[-1]), len(branches)))
                branches.append([])
                ends.append("")
        ends[nodes[group]] = group
    return branches, ends


def cost_of(levels, state):
    """Return the cost with which the state stands in masks that are kept by their costs, or None."""
    for cost, states in levels.items():
        if states >> state & 1:
            return cost
    return None


class Walks:
    """The ends of all walks by the least closed table that contains a given one.

    `columns` has for each sign the mask of the states behind each state, and `first` the
    masks of the table to which the walks through groups are added. A walk through a group
    costs `price` joins and the joins of its fillings.
    """

    def __init__(self, columns, first, groups, signs, price):
        self.branches, self.groups_at = group_tree(groups, signs)
        self.width = len(self.branches)
        # For each node the node before it and the column of the sign between them.
        self.before = {to: (node, column) for node, steps in enumerate(self.branches) for column, to in steps}
        self.price = price
        self.steps = [union_tables(masks) for masks in columns]
        places = len(first) * self.width
        # For each place the states at which walks end, and those that its last sign leads to.
        self.known = [0] * places
        self.entered = [0] * places
        # The same states by their costs.
        self.reached = [{} for _ in range(places)]
        self.begun = [{} for _ in range(places)]
        # For each state the places that a sign enters by it, with the costs so far.
        self.users = [[] for _ in first]
        # What is still to be taken: for each cost the states by their places.
        self.batches = {}
        for state, mask in enumerate(first):
            self.put(state * self.width, mask, 0)
        self.settle()

    def put(self, place, states, cost):
        """Let the states wait to be taken at the place with this cost."""
        states = states & ~self.known[place]
        if states:
            batch = self.batches.setdefault(cost, {})
            batch[place] = batch.get(place, 0) | states

    def settle(self):
        """Take what waits, the least costs first, so that each state is taken at its least cost."""
        while self.batches:
            cost = min([int(known) for known in self.batches])
            batch = self.batches[cost]
            while batch:
                for place in list(batch):
                    self.take(place, batch.pop(place), cost)
            self.batches.pop(cost)

    def take(self, place, states, cost):
        """Let walks end at the states, and go on from there."""
        states = states & ~self.known[place]
        if states == 0:
            return
        self.known[place] = self.known[place] | states
        self.reached[place][cost] = self.reached[place].get(cost, 0) | states
        start, node = divmod(place, self.width)
        if node == 0:
            for user, before in self.users[start]:
                self.put(user, states, before + cost)
        elif self.groups_at[node]:
            self.put(start * self.width, states, cost + self.price)
        for column, behind in self.branches[node]:
            self.enter(start * self.width + behind, union_at(self.steps[column], states), cost)

    def enter(self, place, states, cost):
        """Let a sign lead walks to the states; what fills the gap behind them follows."""
        states = states & ~self.entered[place]
        self.entered[place] = self.entered[place] | states
        if states:
            self.begun[place][cost] = self.begun[place].get(cost, 0) | states
        for state in states_of(states):
            self.users[state].append((place, cost))
            for more, filled in self.reached[state * self.width].items():
                self.put(place, filled, cost + more)

    def filled(self, state):
        """Return for each cost the mask of the states to which the table leads the state with it."""
        return dict(self.reached[state * self.width])

    def closed(self):
        """Return the least closed table: for each state the mask of the states in its entry."""
        return self.known[::self.width]

    def cost(self, start, last):
        """Return the least cost from one state to another one by the table, or None."""
        return cost_of(self.reached[start * self.width], last)

    def entered_by(self, place, state):
        """Return a state that the last sign leads to in a walk with the least cost, and the cost so far.

        The walk ends at the state; what is filled in behind the sign leads there.
        """
        cost = cost_of(self.reached[place], state)
        for spent, entered in self.begun[place].items():
            for behind in states_of(entered):
                if self.cost(behind, state) == cost - spent:
                    return behind, spent
        return None

    def state_before(self, place, behind, spent):
        """Return a state that is reached with this cost, and from which the last sign leads on."""
        start, node = divmod(place, self.width)
        shorter, column = self.before[node]
        for before in states_of(self.reached[start * self.width + shorter][spent]):
            if union_at(self.steps[column], 1 << before) >> behind & 1:
                return before
        return None

    def parts(self, start, last):
        """Return the parts of a filling with the least cost between two different states, in order.

        A part is a bracketed piece of a group, or a pair of states that some filling leads
        the one to the other.
        """
        wanted = self.cost(start, last) - self.price
        place = start * self.width
        nodes = [node for node, group in enumerate(self.groups_at)
                 if group and cost_of(self.reached[place + node], last) == wanted]
        node = nodes[0]
        group = self.groups_at[node]
        found = []
        state = last
        for at in range(len(group) - 1, -1, -1):
            behind, spent = self.entered_by(place + node, state)
            opening = "(" if at == 0 else ""
            closing = ")" if at == len(group) - 1 else ""
            found.extend([(behind, state), opening + group[at] + closing])
            state = self.state_before(place + node, behind, spent)
            node = self.before[node][0]
        return [(start, state)] + found[::-1]

    def filling_text(self, start, last):
        """Return the bracketed text of a filling with the least cost that leads one state to the other."""
        text = ""
        waiting = [(start, last)]
        while waiting:
            part = waiting.pop()
            if isinstance(part, str):
                text = text + part
            elif part[0] != part[1]:
                waiting.extend(self.parts(part[0], part[1])[::-1])
        return text
