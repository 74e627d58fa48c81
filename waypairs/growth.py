"""How fast the entries of a walk can grow with the size of the web."""

from waypairs.entrygraph import EntryGraph, copied_steps
from waypairs.errors import BadStanding, Endless
from waypairs.rings import graph_ranks
from waypairs.spreads import spreads_of
from waypairs.tables import wrong_entry

START = ("start",)


def _ending_graph(travel):
    """The entry graph of a travel whose walk ends on every home web; raises for another one."""
    graph = EntryGraph(travel)
    if graph_ranks(graph) is None:
        raise Endless(1)
    return graph


def most_entries(travel, size):
    """A bound for the entries of all walks over home webs of this size."""
    graph = _ending_graph(travel)
    ranks = graph_ranks(graph)
    weights = {}
    for kind in sorted(graph.entered, key=lambda name: ranks[name]):
        weights[kind] = 1
        for _, name, other in graph.leaving(kind):
            places = size if graph.is_list(kind, name) else 1
            copies = size if graph.is_known(other) else 1
            weights[kind] += weights[other] * places * copies
    root = travel.source.root
    return weights[root] + size * sum([weights[kind] for kind in graph.met(root)])


def _add_way(found, state, gain, step):
    """Keeps a way to a state, if none with such a gain was found."""
    if state not in found or found[state][0] < gain:
        found[state] = (gain, step)


class Growth:
    """The states of a travel whose walk ends on every home web, and their moves."""

    def __init__(self, travel):
        self._travel = travel
        self._graph = _ending_graph(travel)
        self._spreads = {kind: spreads_of(self._graph, kind) for kind in self._graph.entered}
        self._numbers = self._numbered()
        self.degree = self._numbers[START]

    def spreads(self, kind):
        """The spreads of an entered kind."""
        self._graph.check_entered(kind)
        return list(self._spreads[kind])

    def moves(self, state):
        """The moves (state, gain) from a state."""
        found = self.ways_on(state)
        return [(other, found[other][0]) for other in found]

    def table(self):
        """The states that are reached, with the greatest sums of gains from them on, the start first."""
        return [(state, self._numbers[state]) for state in self._numbers]

    def trail(self):
        """States from the start on, each reached by a move from the one before, whose gains make the degree."""
        trail = [START]
        while self._numbers[trail[-1]] > 0:
            number = self._numbers[trail[-1]]
            best = [other for other, gain in self.moves(trail[-1]) if gain + self._numbers[other] == number]
            trail.append(best[0])
        return trail

    def is_state(self, value):
        """Whether any value is a state of the travel."""
        if value == START:
            return True
        if not isinstance(value, tuple) or len(value) < 2 or value[1] not in self._graph.entered:
            return False
        if value[0] == "point":
            return len(value) == 2
        if value[0] != "spread" or len(value) != 3:
            return False
        return value[2] is None or value[2] in [name for name, _ in self._graph.going_from(value[1])]

    def ways_on(self, state):
        """For each state to which moves lead from a state the greatest gain, with the step (field, kind) that has it.

        The step is None from the start.
        """
        if not self.is_state(state):
            raise BadStanding()
        found = {}
        if state == START:
            root = self._travel.source.root
            _add_way(found, ("point", root), 0, None)
            self._add_new(found, root, 0, None)
            return found
        taken = state[2] if state[0] == "spread" else None
        for name, other in copied_steps(self._travel, state[1]):
            if name != taken:
                gain = 1 if state[0] == "point" and self._graph.is_list(state[1], name) else 0
                if not self._graph.is_known(other):
                    _add_way(found, ("point", other), gain, (name, other))
                if self._travel.fate(state[1], name) == "new":
                    self._add_new(found, other, gain, (name, other))
        return found

    def _add_new(self, found, kind, gain, step):
        """Adds the states to which a new memo leads that begins at a kind."""
        for other in self._graph.met(kind):
            _add_way(found, ("point", other), gain, step)
        for spread in self._spreads[kind]:
            _add_way(found, spread, gain + 1, step)

    def _numbered(self):
        """The reached states, the start first, with the greatest sums of gains from them on."""
        order = [START]
        moves = {}
        at = 0
        while at < len(order):
            moves[order[at]] = self.moves(order[at])
            for other, _ in moves[order[at]]:
                if other not in order:
                    order.append(other)
            at += 1
        numbers = {state: 0 for state in order}
        # The ranks of the kinds fall with each move: after so many rounds nothing changes.
        for _ in range(len(self._graph.entered) + 1):
            for state in order[::-1]:
                numbers[state] = max([gain + numbers[other] for other, gain in moves[state]], default=0)
        return numbers


def growth_fault(travel, table):
    """None if a list of any values is a right growth table, otherwise where it is wrong first; -1 without the start."""
    growth = Growth(travel)
    wrong = wrong_entry(table, lambda value: growth.is_state(value))
    if wrong is not None:
        return wrong
    numbers = {state: number for state, number in table}
    if START not in numbers:
        return -1
    for at, (state, number) in enumerate(table):
        for other, gain in growth.moves(state):
            if other not in numbers or numbers[other] + gain > number:
                return at
    return None
