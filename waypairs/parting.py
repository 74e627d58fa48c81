"""The clients with the fewest lines that tell two webs apart."""

from waypairs.bounds import check_webs
from waypairs.errors import TooLarge
from waypairs.pairwalk import PairWalk
from waypairs.trees import NEVER, Both, PairGraph, Reach, StepLines

MOST_PAIRS = 64


def _sharing(pairs):
    """The tuples (at, other) of different places in a list of pairs that have a thing of the same web in common."""
    found = []
    for other, (x, y) in enumerate(pairs):
        found.extend([(at, other) for at in range(other) if pairs[at][0] == x or pairs[at][1] == y])
    return found


def _plain_change(web, thing):
    """The words of a line, but for the name, that changes a thing so that looking tells it; None if there is none.

    Filling an empty link is left out, because it needs another thing in hand.
    """
    house = web.house
    kind = web.kind_of(thing)
    for field in house.fields_of(kind):
        value = web[thing, field.name]
        if field.mode == "mark" and field.name != house.key_of(kind):
            return ("mark", field.name, 1 if value == 0 else 0)
        if field.mode == "link" and value is not None:
            return ("link", field.name, None)
        if field.mode == "list" and value:
            return ("clear", field.name)
    return None


def _empty_links(web, thing):
    """The fields that are links of a thing and hold nothing."""
    fields = web.house.fields_of(web.kind_of(thing))
    return [field for field in fields if field.mode == "link" and web[thing, field.name] is None]


class Partings:
    """The plans for telling two webs apart. A plan is a tuple (number of lines, goal, ending, nodes)."""

    def __init__(self, first, second, manners):
        walk = PairWalk(first, second, manners)
        if len(walk.pairs) > MOST_PAIRS:
            raise TooLarge(len(walk.pairs))
        self.web = first
        self.manners = manners
        self.pairs = walk.pairs
        self.graph = PairGraph(walk)
        self.unequal = [at for at, pair in enumerate(walk.pairs) if pair == walk.unequal]

    def best(self):
        """A plan with the fewest lines, or None."""
        stem = self.graph.stem
        plans = []
        for node in self.unequal:
            goal = Reach(self.graph, [node])
            plans.append((goal.cost_from(stem) + 1, goal, "see", (node,)))
        if "ask" in self.manners:
            plans.extend([(goal.cost_from(stem) + 1, goal, "same", nodes) for goal, nodes in self._shared()])
        elif "set" in self.manners:
            plans.extend(self._set_plans(plans))
        return min(plans, key=lambda plan: plan[0]) if plans else None

    def _shared(self):
        """For each two nodes with a thing in common the goal of reaching both, and the two nodes."""
        single = [Reach(self.graph, [node]) for node in range(self.graph.stem)]
        return [(Both(single[at], single[other]), (at, other)) for at, other in _sharing(self.pairs)]

    def _set_plans(self, others):
        """The plans that change a thing through one name and look through another one; others are known plans."""
        plans = []
        fillings = []
        for goal, nodes in self._shared():
            thing = self.pairs[nodes[0]][0]
            cost = goal.cost_from(self.graph.stem) + 2
            if self.web.house.is_frozen(self.web.kind_of(thing)):
                continue
            if _plain_change(self.web, thing) is None:
                fillings.append((cost, goal, nodes))
            else:
                plans.append((cost, goal, "set", nodes))
        least = min([plan[0] for plan in others + plans], default=NEVER)
        for cost, goal, nodes in sorted(fillings, key=lambda filling: filling[0]):
            # Having a third thing in hand does not make a plan shorter.
            if cost < least:
                found = self._filling_plans(goal, nodes)
                plans.extend(found)
                least = min([least] + [plan[0] for plan in found])
        return plans

    def _filling_plans(self, goal, nodes):
        """The plans that fill an empty link of the thing that two nodes have in common."""
        thing = self.pairs[nodes[0]][0]
        fillers = [node for node in range(self.graph.stem)
                   if any([self._fills(link, node) for link in _empty_links(self.web, thing)])]
        if not fillers:
            return []
        filler = Reach(self.graph, fillers)
        # The three goals may part in any order.
        goals = [Both(goal, filler), Both(Both(goal.first, filler), goal.second),
                 Both(goal.first, Both(goal.second, filler))]
        return [(whole.cost_from(self.graph.stem) + 2, whole, "fill", nodes) for whole in goals]

    def _fills(self, link, node):
        """Whether a link can hold the thing of a node."""
        return self.web.house.admits(link.target, self.web.kind_of(self.pairs[node][0]))

    def client_of(self, plan):
        """The client of a plan."""
        _, goal, ending, nodes = plan
        grown = StepLines(self.graph)
        goal.grow(grown, self.graph.stem)
        names = [grown.names[node] for node in nodes]
        if ending == "see":
            return [*grown.lines, ("see", names[0])]
        if ending == "same":
            return [*grown.lines, ("same", names[0], names[1])]
        thing = self.pairs[nodes[0]][0]
        if ending == "fill":
            change = self._filling(thing, grown.names)
        else:
            change = _plain_change(self.web, thing)
        return [*grown.lines, (change[0], names[0], *change[1:]), ("see", names[1])]

    def _filling(self, thing, names):
        """The words of a line that fills an empty link of a thing with the thing of a node in hand."""
        for link in _empty_links(self.web, thing):
            for node in names:
                if self._fills(link, node):
                    return ("link", link.name, names[node])
        return None


def parting(first, second, manners):
    """A client with the fewest lines that has the manners and tells the webs apart, or None."""
    check_webs([first, second], manners)
    partings = Partings(first, second, manners)
    best = partings.best()
    return None if best is None else partings.client_of(best)


def parting_lines(first, second, manners):
    """The number of lines of a parting, or None."""
    check_webs([first, second], manners)
    best = Partings(first, second, manners).best()
    return None if best is None else best[0]
