"""Rings of one travel: whether its walk ends on every home web."""

from waypairs.chains import chains_from, falling_ranks
from waypairs.entrygraph import EntryGraph, copied_steps
from waypairs.errors import BadPaper, TooLarge
from waypairs.forms import copied_value, is_integer
from waypairs.grownwebs import GrownWeb
from waypairs.rules import HOME_THINGS


def graph_ranks(graph):
    """The ranks of the entered kinds of an entry graph, None if it has a cycle."""
    return falling_ranks({kind: [edge[2] for edge in graph.leaving(kind)] for kind in graph.entered})


def ranks_of(travel):
    """The ranks of the entered kinds, None if the walk does not end on every home web."""
    return graph_ranks(EntryGraph(travel))


def ranks_fault(travel, ranks):
    """None if a dict to any values shows that the walk ends, otherwise the first kind or edge that is wrong."""
    graph = EntryGraph(travel)
    for kind in graph.entered:
        if not is_integer(ranks.get(kind)) or ranks[kind] < 0:
            return kind
    for edge in graph:
        if ranks[edge[2]] >= ranks[edge[0]]:
            return edge
    return None


class KindRing:
    """Copied steps (field, kind) that lead from the root kind to a ring, and those of the ring."""

    def __init__(self, lead, ring):
        self.lead = copied_value(tuple(lead))
        self.ring = copied_value(tuple(ring))

    def __eq__(self, other):
        return isinstance(other, KindRing) and self.lead == other.lead and self.ring == other.ring


def _shortest_from(travel, start):
    """A shortest ring that begins at an entered kind, None if there is none."""
    # Spots are tuples (kind, whether a step was of the fate new, whether all kinds so far are never known).
    chains = {(start, False, True): ()}
    order = [(start, False, True)]
    at = 0
    while at < len(order):
        spot = order[at]
        at += 1
        kind, has_new, never = spot
        for name, other in copied_steps(travel, kind):
            new = has_new or travel.fate(kind, name) == "new"
            behind = (other, new, never and travel.rule(other) == "never")
            ring = (*chains[spot], (name, other))
            if other == start and (new or behind[2]):
                return ring
            if behind not in chains:
                chains[behind] = ring
                order.append(behind)
    return None


def shortest_ring(travel):
    """A ring with the fewest steps, and among these with the shortest lead; None if there is no ring."""
    best = None
    names = travel.source.names
    leads = chains_from({kind: copied_steps(travel, kind) for kind in names}, travel.source.root, names)
    for kind in leads:
        ring = _shortest_from(travel, kind)
        if ring is not None and (best is None or len(ring) < len(best.ring)):
            best = KindRing(leads[kind], ring)
    return best


def _first_strange(travel, kind, steps):
    """The first place whose value is not a copied step from the kind reached so far, None if there is none.

    The kind that is reached then stands beside it.
    """
    for at, step in enumerate(steps):
        if step not in copied_steps(travel, kind):
            return at, kind
        kind = step[1]
    return None, kind


def _is_endless(travel, kind, ring):
    """Whether right steps from a kind are a ring."""
    if not ring or ring[-1][1] != kind:
        return False
    begins = [kind] + [other for _, other in ring]
    if any([travel.fate(begin, name) == "new" for begin, (name, _) in zip(begins, ring)]):
        return True
    return all([travel.rule(other) == "never" for _, other in ring])


def ring_fault(travel, found):
    """None for a ring with a lead to it, otherwise where it is wrong first."""
    at, begin = _first_strange(travel, travel.source.root, found.lead)
    if at is not None:
        return ("lead", at)
    at, _ = _first_strange(travel, begin, found.ring)
    if at is not None:
        return ("ring", at)
    return None if _is_endless(travel, begin, found.ring) else ("ring", len(found.ring))


def web_of_ring(travel, found):
    """The web of a ring, over which the walk never ends."""
    if ring_fault(travel, found) is not None:
        raise BadPaper()
    count = len(found.lead) + len(found.ring)
    if count > HOME_THINGS:
        raise TooLarge(HOME_THINGS)
    grown = GrownWeb(travel.source)
    begin = grown.grow(0, found.lead)
    grown.grow_back(begin, found.ring, begin)
    for thing in range(count):
        names = travel.source.marks_of(grown.kind_of(thing))
        grown.give_marks(thing, {name: thing + 1 for name in names})
    return grown.finished()
