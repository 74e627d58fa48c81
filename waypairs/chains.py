"""Chains of steps (field, kind) from kind to kind."""


def chains_from(steps, start, kinds):
    """A shortest chain from a kind to each one that it leads to, through some kinds alone; to itself an empty one.

    Steps has the steps of each kind.
    """
    chains = {start: []}
    order = [start]
    at = 0
    while at < len(order):
        kind = order[at]
        at += 1
        for step in steps[kind]:
            other = step[1]
            if other in kinds and other not in chains:
                chains[other] = [*chains[kind], (step[0], other)]
                order.append(other)
    return chains


def falling_ranks(following):
    """For each name the most steps one behind the other from it on, None if there is a ring.

    Following has a list of the names that follow on each one.
    """
    ranks = {}
    # Each round gives ranks to the names that are followed only by names that have one.
    for _ in following:
        for name in following:
            if all([other in ranks for other in following[name]]):
                ranks[name] = max([ranks[other] + 1 for other in following[name]], default=0)
    if len(ranks) < len(following):
        return None
    return {name: ranks[name] for name in following}


class Chains:
    """All shortest chains through some kinds of a house; steps has the steps of each kind."""

    def __init__(self, house, steps, kinds):
        self._house = house
        self._steps = {kind: [step for step in steps[kind] if step[1] in kinds] for kind in kinds}
        self._chains = {kind: chains_from(self._steps, kind, kinds) for kind in kinds}

    def from_root(self):
        """The chains from the root kind to each kind that it leads to, none if it is not among the kinds."""
        return dict(self._chains.get(self._house.root, {}))

    def chain_by(self, start, name, goal):
        """A shortest chain of one step or more, the first one by this field, or None."""
        found = [[step, *self._chains[step[1]][goal]] for step in self._steps[start]
                 if step[0] == name and goal in self._chains[step[1]]]
        return min(found, key=len, default=None)

    def ring_at(self, kind):
        """A shortest ring of a kind, or None."""
        return self.chain(kind, kind)

    def chain(self, start, goal):
        """A shortest chain of one step or more, or None."""
        found = [[step, *self._chains[step[1]][goal]] for step in self._steps[start] if goal in self._chains[step[1]]]
        return min(found, key=len, default=None)

    def fork(self, goal):
        """A shortest fork of a kind: a tuple of the chain to where it begins and of its two chains, or None."""
        found = []
        leads = self.from_root()
        for kind in leads:
            for one, other in self._parted(kind, goal):
                found.append((leads[kind], one, other))
        return min(found, key=fork_length, default=None)

    def _parted(self, kind, goal):
        """Pairs of chains that begin with unlike slots, or both with the same list, in the order of the slots."""
        chains = []
        for name in self._house.slots_of(kind):
            chain = self.chain_by(kind, name, goal)
            if chain is not None:
                chains.append(chain)
                if self._house.field_of(kind, name).mode == "list":
                    chains.append(chain)
        return [(one, other) for at, one in enumerate(chains) for other in chains[at + 1:]]


def fork_length(fork):
    """How many steps a fork has."""
    lead, one, other = fork
    return len(lead) + len(one) + len(other)
