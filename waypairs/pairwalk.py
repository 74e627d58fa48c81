"""The pairs of things of two webs to which the same ways lead."""

from waypairs.refine import sight


def root_pairs(first, second, manners):
    """The pairs of the roots, by the names of the roots."""
    if "old" in manners:
        return {"here": (first.here, second.here), "old": (first.old, second.old)}
    return {"here": (first.here, second.here)}


def _sights(web):
    """The sights of all things of a web."""
    return [sight(web, thing) for thing in range(len(web))]


class PairWalk:
    """The walked pairs of two webs, in the order of first meeting."""

    def __init__(self, first, second, manners):
        sights = _sights(first)
        others = _sights(second)
        pairs = []
        # For each walked pair those to which a step leads, with the first such step.
        self.following = {}
        # The first walked pair of unequal sights, if there is one.
        self.unequal = None
        for pair in root_pairs(first, second, manners).values():
            if pair not in pairs:
                pairs.append(pair)
        seen = {pair: True for pair in pairs}
        at = 0
        while at < len(pairs):
            x, y = pairs[at]
            at += 1
            steps = {}
            if sights[x] == others[y]:
                for step, left, right in zip(first.steps(x), first.held_by(x), second.held_by(y)):
                    if (left, right) not in steps:
                        steps[left, right] = step
            elif self.unequal is None:
                self.unequal = (x, y)
            self.following[x, y] = steps
            for pair in steps:
                if pair not in seen:
                    seen[pair] = True
                    pairs.append(pair)
        self.pairs = pairs
