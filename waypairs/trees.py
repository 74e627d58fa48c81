"""Trees of walked pairs that are grown from the roots with the fewest step lines.

The walked pairs are the nodes of a graph, numbered in their order; one node more, the stem, stands for having the
roots in hand. The cost of a goal from a node is the fewest step lines that reach it from there.
"""

from waypairs.forms import SMALL

# More than the lines of any client, for what is not reached.
NEVER = 10 ** 6


def _distances(edges, start):
    """The fewest steps from a node to each node; edges has for each node those that follow it."""
    found = [NEVER for _ in edges]
    found[start] = 0
    queue = [start]
    at = 0
    while at < len(queue):
        node = queue[at]
        at += 1
        for further in edges[node]:
            if found[further] == NEVER:
                found[further] = found[node] + 1
                queue.append(further)
    return found


class PairGraph:
    """The walked pairs as nodes, and the fewest steps between them."""

    def __init__(self, walk):
        numbers = {pair: at for at, pair in enumerate(walk.pairs)}
        self.stem = len(numbers)
        # The names of the nodes that are roots.
        self.roots = {numbers[pair]: name for name, pair in walk.roots.items()}
        # For each node those that follow it, with a step that leads there.
        self.edges = []
        for start in walk.pairs:
            following = walk.following(start)
            self.edges.append({numbers[pair]: following[pair] for pair in following})
        # For each node the fewest steps to each node, the stem as the last one.
        self.far = [[*_distances(self.edges, node), NEVER] for node in range(self.stem)]
        starts = [self.far[root] for root in self.roots]
        from_stem = [min([far[node] for far in starts]) for node in range(self.stem)]
        self.far.append([*from_stem, 0])

    def next_on(self, node, goal):
        """The node behind another one on a shortest path to a goal."""
        if node == self.stem:
            # Having a root costs no line: the stem is as far from the goal as the nearest root.
            nexts = [root for root in self.roots if self.far[root][goal] == self.far[node][goal]]
        else:
            nexts = [further for further in self.edges[node] if self.far[further][goal] < self.far[node][goal]]
        return nexts[0]


class Reach:
    """The goal of reaching any of some nodes."""

    def __init__(self, graph, nodes):
        self.graph = graph
        self.nodes = nodes

    def cost_from(self, node):
        """The cost from a node."""
        return min([self.graph.far[node][goal] for goal in self.nodes])

    def grow(self, lines, node):
        """Adds step lines from a node to the goal."""
        cost = self.cost_from(node)
        nearest = [goal for goal in self.nodes if self.graph.far[node][goal] == cost]
        lines.walk(node, nearest[0])


class Both:
    """The goal of reaching two goals, by steps that may be the same at first."""

    def __init__(self, first, second):
        self.graph = first.graph
        self.first = first
        self.second = second
        # The nodes at which the ways to the two goals may part, and the cost from there.
        self.forks = []
        for node in range(self.graph.stem + 1):
            cost = first.cost_from(node) + second.cost_from(node)
            if cost < NEVER:
                self.forks.append((node, cost))

    def cost_from(self, node):
        """The cost from a node."""
        far = self.graph.far[node]
        return min([far[fork] + cost for fork, cost in self.forks], default=NEVER)

    def grow(self, lines, node):
        """Adds step lines from a node to both goals."""
        far = self.graph.far[node]
        least = self.cost_from(node)
        forks = [fork for fork, cost in self.forks if far[fork] + cost == least]
        lines.walk(node, forks[0])
        self.first.grow(lines, forks[0])
        self.second.grow(lines, forks[0])


def _name(number):
    """The name with this number among those of one and two letters; none is the name of a root."""
    many = len(SMALL)
    if number < many:
        return SMALL[number]
    return SMALL[number // many - 1] + SMALL[number % many]


class StepLines:
    """Step lines that lead from the roots to nodes of a graph."""

    def __init__(self, graph):
        self.graph = graph
        self.lines = []
        # The names that hold the nodes in hand.
        self.names = dict(graph.roots)

    def walk(self, node, goal):
        """Adds the lines that lead from a node in hand to a goal on a shortest path."""
        while node != goal:
            further = self.graph.next_on(node, goal)
            if further not in self.names:
                field, place = self.graph.edges[node][further]
                name = _name(len(self.lines))
                self.lines.append(("step", name, self.names[node], field, place))
                self.names[further] = name
            node = further
