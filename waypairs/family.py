"""Families of webs over which the entries of a walk grow as fast as they can."""

from waypairs.chains import chains_from
from waypairs.entrygraph import EntryGraph
from waypairs.errors import TooLarge
from waypairs.freshmarks import fresh_marks
from waypairs.grownwebs import GrownWeb
from waypairs.growth import Growth
from waypairs.rules import HOME_THINGS
from waypairs.spreads import by_branches, by_lists


def _path(graph, start, goal):
    """The going steps (field, kind) of a shortest path from an entered kind to one to which it goes on, or itself."""
    steps = {kind: graph.going_from(kind) for kind in graph.entered}
    return chains_from(steps, start, graph.entered)[goal]


def _path_by(graph, start, name, goal):
    """A shortest path of one going step or more, the first one by this field."""
    paths = []
    for field, other in graph.going_from(start):
        if field == name and goal in graph.ahead_of(other):
            paths.append([(name, other), *_path(graph, other, goal)])
    return min(paths, key=len)


class FamilyWeb:
    """A web over which a walk enters things as often as a trail of states tells."""

    def __init__(self, travel, many):
        self.grown = GrownWeb(travel.source)
        self._graph = EntryGraph(travel)
        self._many = many
        # The things of the last state, none at the start.
        self._ends = []

    def go_on(self, state, step, following):
        """Adds the things of the state that follows on one by this step (field, kind), None for the start."""
        begin = 0
        if step is not None:
            begin = self.grown.add_thing(step[1])
            for end in self._ends:
                for _ in range(self._times(state, step[0])):
                    self.grown.let_hold(end, step[0], begin)
        if following[0] == "point":
            path = _path(self._graph, self.grown.kind_of(begin), following[1])
            self._ends = [self.grown.grow(begin, path)]
        elif following[2] is None:
            self._ends = self._spread_out(begin, following[1])
        else:
            self._ends = self._chain(begin, following[1], following[2])

    def _times(self, state, name):
        """How many times a thing of a state holds what follows."""
        return self._many if state[0] == "point" and self._graph.is_list(state[1], name) else 1

    def _spread_out(self, begin, goal):
        """Adds many things of a kind behind one thing, by a list or by branches of a ring; these things."""
        kind = self.grown.kind_of(begin)
        lists = [row for row in by_lists(self._graph, kind) if row[2] == goal]
        if lists:
            middle, name, _ = lists[0]
            last = self.grown.grow(begin, _path(self._graph, kind, middle))
            path = _path_by(self._graph, middle, name, goal)
            return [self.grown.grow(last, path) for _ in range(self._many)]
        rows = [row for row in by_branches(self._graph, kind) if row[3] == goal]
        middle, turning, branch, _ = rows[0]
        path = _path_by(self._graph, middle, branch, goal)
        return [self.grown.grow(last, path) for last in self._chain(begin, middle, turning)]

    def _chain(self, begin, goal, name):
        """Adds many things of a kind behind one thing, each of which leads to the next by this field; these things."""
        found = [self.grown.grow(begin, _path(self._graph, self.grown.kind_of(begin), goal))]
        path = _path_by(self._graph, goal, name, goal)
        while len(found) < self._many:
            found.append(self.grown.grow(found[-1], path))
        return found


def family(travel, many):
    """The web of the family of a travel for this number."""
    growth = Growth(travel)
    web = FamilyWeb(travel, many)
    trail = growth.trail()
    for state, following in zip(trail, trail[1:]):
        steps = growth.ways_on(state)
        web.go_on(state, steps[following][1], following)
        if len(web.grown) > HOME_THINGS:
            raise TooLarge(HOME_THINGS)
    for thing, marks in enumerate(fresh_marks(travel.source, web.grown.kinds_so_far())):
        web.grown.give_marks(thing, marks)
    return web.grown.finished()
