"""Verdicts: who can tell a web that came back from the ideal one."""

from waypairs.closure import Closure
from waypairs.leastweb import made_example
from waypairs.oneway import Lens
from waypairs.rowrings import ring_of
from waypairs.standings import fault, told_by

# If faults of one of these occur, the graver one first, no others are given.
GRAVEST = ("lost", "merged")


def _gravest(found):
    """The gravest faults among tuples that begin with a fault."""
    for word in GRAVEST:
        graver = [entry for entry in found if entry[0] == word]
        if graver:
            return graver
    return found


class Verdict:
    """What is known of a row: that it is endless, or the faults that it can show."""

    def __init__(self, row, lens, ring, closure):
        self.row = row
        self.word = "judged" if ring is None else "endless"
        self.ring = ring
        self._lens = lens
        self._closure = closure
        # Tuples (fault, standing, cost, the least sets of manners that tell) by cost.
        self._found = [] if closure is None else self._found_in(closure.table())

    def _found_in(self, table):
        """The gravest faults of the standings of a table."""
        found = []
        for standing, cost in table:
            shown = fault(self._lens, standing)
            if shown is not None:
                found.append((shown, standing, cost, told_by(self._lens, standing)))
        return _gravest(found)

    def faults(self):
        """The tuples (fault, kind, cost, manners), one for each fault and kind, by cost, fault and kind."""
        names = self.row.home.names
        least = {}
        for shown, standing, cost, told in self._found:
            spot = (shown, names.index(standing[1]))
            if spot not in least:
                least[spot] = (cost, told)
        rows = sorted([(least[spot][0], spot[0], spot[1]) for spot in least])
        return [(shown, names[place], cost, list(least[shown, place][1])) for cost, shown, place in rows]

    def _first_told(self, manners):
        """The first standing of the least cost by which a set of manners tells, with this cost, or None."""
        for _, standing, cost, told in self._found:
            if any([least.within(manners) for least in told]):
                return standing, cost
        return None

    def tells(self, manners):
        """Whether a set of manners tells."""
        return self.ring is not None or self._first_told(manners) is not None

    def quiet(self, manners):
        """Whether the row is quiet for a set of manners."""
        return not self.tells(manners)

    def cost(self, manners):
        """The least cost of the faults that a set of manners tells, or None."""
        told = self._first_told(manners)
        return None if told is None else told[1]

    def table(self):
        """The reached standings with their least costs; none if the row is endless."""
        return [] if self._closure is None else self._closure.table()

    def example(self, manners):
        """An example for a set of manners that tells, None if the row is quiet for it or endless."""
        told = self._first_told(manners)
        return None if told is None else made_example(self._lens, self._closure, told[0], manners)


def judge(row):
    """The verdict on a row."""
    lens = Lens(row)
    ring = ring_of(lens)
    return Verdict(row, lens, ring, Closure(lens) if ring is None else None)
