"""Rings of rows: travels that do not end on some home web."""

from waypairs.chains import chains_from
from waypairs.freshmarks import fresh_marks
from waypairs.grownwebs import GrownWeb


class RowRing:
    """A travel that never ends on a web with a ring of these steps (field, kind), behind a lead."""

    def __init__(self, travel, lead, ring):
        self.travel = travel
        self.lead = lead
        self.ring = ring


def _walked_steps(lens, travel):
    """For each kind the steps (field, kind) by which the walk of a travel goes on, with their fates there."""
    home = lens.row.home
    found = {}
    for kind in home.names:
        found[kind] = []
        for name in home.slots_of(kind):
            fates = lens.fates(kind, name)
            if fates is not None and fates[travel - 1] in ("goes", "new"):
                for other in home.admitted(home.field_of(kind, name).target):
                    found[kind].append((name, other, fates[travel - 1]))
    return found


def _new_ring(steps, reached):
    """The kind where a ring begins with a step of the fate new, and the ring; None if there is none."""
    for kind in reached:
        for name, other, fate in steps[kind]:
            if fate == "new":
                chains = chains_from(steps, other, reached)
                if kind in chains:
                    return (kind, [(name, other), *chains[kind]])
    return None


def _never_ring(lens, travel, steps, reached):
    """The kind where a ring of kinds that are never known begins, and the ring; None if there is none."""
    never = [kind for kind in reached if lens.rules(kind)[travel - 1] == "never"]
    for kind in never:
        for name, other, _ in steps[kind]:
            if other in never:
                chains = chains_from(steps, other, never)
                if kind in chains:
                    return (kind, [(name, other), *chains[kind]])
    return None


def _turned(kind, ring, leads):
    """The lead and the ring where the ring is turned to begin at its kind with the shortest lead."""
    kinds = [kind] + [other for _, other in ring[:-1]]
    lengths = [len(leads[other]) for other in kinds]
    at = lengths.index(min(lengths))
    return leads[kinds[at]], ring[at:] + ring[:at]


def _loses(lens):
    """Whether a field is broken for some reached word."""
    return any([lens.broken(word) != [] for word in lens.words()])


def ring_of(lens):
    """The first travel that can be endless, with a ring; None if the row is not endless."""
    if _loses(lens):
        return None
    home = lens.row.home
    for travel in range(1, lens.size + 1):
        steps = _walked_steps(lens, travel)
        leads = chains_from(steps, home.root, home.names)
        found = _new_ring(steps, leads)
        if found is None:
            found = _never_ring(lens, travel, steps, leads)
        if found is not None:
            lead, ring = _turned(found[0], found[1], leads)
            return RowRing(travel, lead, ring)
    return None


def ring_web(lens, ring):
    """A home web with this ring, on which its travel never ends."""
    home = lens.row.home
    grown = GrownWeb(home)
    begin = grown.grow(0, ring.lead)
    grown.grow_back(begin, ring.ring, begin)
    for thing, marks in enumerate(fresh_marks(home, grown.kinds_so_far())):
        grown.give_marks(thing, marks)
    return grown.finished()
