"""Home webs with two ways that stand as a trail of standings tells."""

from waypairs.freshmarks import fresh_marks
from waypairs.grownwebs import GrownWeb
from waypairs.standings import moves_from


class TwoWays:
    """A web that grows along two ways from its root; each step that does not meet leads to a new thing."""

    def __init__(self, house):
        self.grown = GrownWeb(house)
        # The steps and the last things of the first and of the second way.
        self.first = []
        self.second = []
        self.ends = (0, 0)

    def make(self, move):
        """Lets the ways go on by a move from one standing to another."""
        word, first, second = move
        if word == "swap":
            # Ways that change places have come to one thing.
            self.first, self.second = self.second, self.first
        elif word == "both":
            self._both(first)
        elif word != "join":
            self._unlike(first, second, word == "meet")

    def _both(self, taken):
        """Both ways take the same step."""
        group, kind = taken
        thing = self.ends[0]
        new = self.grown.add_thing(kind)
        step = self.grown.let_hold(thing, group.names[0], new)
        self.first.append(step)
        self.second.append(step)
        self.ends = (new, new)

    def _unlike(self, first, second, meets):
        """One way takes a step, or both take different ones; if they meet, they lead to one thing then."""
        one, other = self.ends
        if first is not None:
            new = other if meets and second is None else self.grown.add_thing(first[1])
            self.first.append(self.grown.let_hold(one, first[0].names[0], new))
            self.ends = (new, other)
        if second is not None:
            new = self.ends[0] if meets else self.grown.add_thing(second[1])
            # By the same group the ways take two fields, or two places of its only list.
            self.second.append(self.grown.let_hold(other, second[0].names[-1], new))
            self.ends = (self.ends[0], new)

    def give_marks(self, alike):
        """Gives all things marks that are all different, but equal ones to the last things if these are alike."""
        marks = fresh_marks(self.grown.house, self.grown.kinds_so_far())
        if alike:
            marks[self.ends[1]] = marks[self.ends[0]]
        for thing, given in enumerate(marks):
            self.grown.give_marks(thing, given)


def grown_ways(lens, closure, standing):
    """Two ways that stand like this in a web, which has no marks yet."""
    made = TwoWays(lens.row.home)
    trail = closure.trail(standing)
    for before, behind in zip(trail, trail[1:]):
        cost = closure.cost(behind) - closure.cost(before)
        moves = moves_from(lens, before)
        made.make(moves[behind, cost])
    return made
