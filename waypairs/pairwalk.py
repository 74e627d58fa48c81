"""The pairs of things of two webs to which the same ways lead."""

from waypairs.refine import sight


def root_pairs(first, second, manners):
    """The pairs of the roots, by the names of the roots."""
    if "old" in manners:
        return {"here": (first.here, second.here), "old": (first.old, second.old)}
    return {"here": (first.here, second.here)}


class PairWalk:
    """The walked pairs of two webs, in the order of first meeting."""

    def __init__(self, first, second, manners):
        self.first = first
        self.second = second
        self.roots = root_pairs(first, second, manners)
        # The first walked pair of unequal sights, if there is one.
        self.unequal = None
        self.pairs = self._walked()

    def _walked(self):
        """The walked pairs; the first unequal one is kept."""
        sights = [sight(self.first, x) for x in range(len(self.first))]
        others = [sight(self.second, y) for y in range(len(self.second))]
        held = [self.first.held_by(x) for x in range(len(self.first))]
        other_held = [self.second.held_by(y) for y in range(len(self.second))]
        pairs = []
        met = [[False for _ in others] for _ in sights]
        for x, y in self.roots.values():
            if not met[x][y]:
                met[x][y] = True
                pairs.append((x, y))
        at = 0
        while at < len(pairs):
            x, y = pairs[at]
            at += 1
            if sights[x] == others[y]:
                for left, right in zip(held[x], other_held[y]):
                    if not met[left][right]:
                        met[left][right] = True
                        pairs.append((left, right))
            elif self.unequal is None:
                self.unequal = (x, y)
        return pairs

    def following(self, pair):
        """The pairs to which steps lead from a walked pair, each with the first such step."""
        x, y = pair
        steps = {}
        if sight(self.first, x) == sight(self.second, y):
            for step, left, right in zip(self.first.steps(x), self.first.held_by(x), self.second.held_by(y)):
                if (left, right) not in steps:
                    steps[left, right] = step
        return steps
