"""The reached standings of a row, with their least costs."""

from waypairs.errors import BadStanding, TooLarge
from waypairs.standings import is_standing, steps

MOST_STANDINGS = 6000


class Closure:
    """All standings that are reached from the start, with least costs and cheapest trails."""

    def __init__(self, lens):
        self._lens = lens
        self._costs = {lens.start: 0}
        # The standing before each one on a cheapest trail.
        self._before = {lens.start: None}
        # The standings by the costs at which they were found: a place may be behind the least one.
        self._layers = [[lens.start]]
        self._order = []
        self._find_all()

    def _find_all(self):
        """Takes the standings by ascending costs."""
        cost = 0
        while cost < len(self._layers):
            at = 0
            while at < len(self._layers[cost]):
                self._take(self._layers[cost][at], cost)
                at += 1
            cost += 1

    def _take(self, standing, cost):
        """Takes a standing, if this is its least cost, and finds what follows from it."""
        if self._costs[standing] < cost:
            return
        self._order.append(standing)
        for following, more in steps(self._lens, standing):
            if following not in self._costs or self._costs[following] > cost + more:
                self._costs[following] = cost + more
                self._before[following] = standing
                self._put(following, cost + more)
        if len(self._costs) > MOST_STANDINGS:
            raise TooLarge(MOST_STANDINGS)

    def _put(self, standing, cost):
        """Puts a standing among those of a cost."""
        while len(self._layers) <= cost:
            self._layers.append([])
        layer = self._layers[cost]
        layer.append(standing)

    def table(self):
        """The reached standings with their least costs, by cost."""
        return [(standing, self._costs[standing]) for standing in self._order]

    def cost(self, standing):
        """The least cost of a standing, None for any value that is no reached standing."""
        return self._costs.get(standing) if is_standing(self._lens, standing) else None

    def trail(self, standing):
        """The standings of a cheapest trail from the start to a reached one."""
        if self.cost(standing) is None:
            raise BadStanding()
        trail = [standing]
        while self._before[trail[-1]] is not None:
            trail.append(self._before[trail[-1]])
        return trail[::-1]
