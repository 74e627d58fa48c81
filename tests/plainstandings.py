"""What follows from standings, field by field and place by place, as the document tells it."""

from waypairs.oneway import Lens


def after(made, fates):
    """MADE behind a step; None if the field is broken."""
    if fates is None or any(fates[k - 1] == "lost" for k in made):
        return None
    new = set()
    for k in made:
        if fates[k - 1] == "named":
            new.clear()
        elif fates[k - 1] in ("goes", "new"):
            new.add(k)
    return tuple(sorted(new))


def plain_alone(n, fates, made, others, memos):
    return tuple(k in made and k in others and fates[k - 1] == "goes" and memos[k - 1] for k in range(1, n + 1))


def plain_together(n, fates, made, others, memos, same):
    found = []
    for k in range(1, n + 1):
        if k not in made or k not in others:
            found.append(False)
        elif fates[k - 1] == "new":
            found.append(same[k - 1])
        else:
            found.append(memos[k - 1] or same[k - 1])
    return tuple(found)


def plain_meeting(rules, made, others, memos, same, home):
    found = [home]
    for k, rule in enumerate(rules, 1):
        if same is not None and same[k - 1]:
            found.append(True)
        elif k in made and k in others:
            found.append({"itself": memos[k - 1] and found[-1], "marks": memos[k - 1], "never": False}[rule])
        elif k in made or k in others:
            found.append(False)
        else:
            found.append(found[-1])
    return tuple(found[1:])


class PlainFollowing:
    def __init__(self, lens):
        self.lens = lens
        self.home = lens.row.home
        self.n = lens.size

    def moves(self, kind, made):
        """(step, fates, new MADE, next kind) for each step, two places for each list."""
        found = []
        for name in self.home.slots_of(kind):
            field = self.home.field_of(kind, name)
            fates = self.lens.fates(kind, name)
            new = after(made, fates)
            if new is not None:
                for place in ([None] if field.mode == "link" else [0, 1]):
                    found.extend(((name, place), fates, new, other) for other in self.home.admitted(field.target))
        return found

    def met(self, kind, made, others, memos, cost, same=None):
        ones = plain_meeting(self.lens.rules(kind), made, others, memos, same, True)
        return set() if ones[-1] else {(("torn", kind, made, others, ones, memos), cost)}

    def parting(self, kind, made, others, memos):
        found = set()
        for step, fates, new, one in self.moves(kind, made):
            first = plain_alone(self.n, fates, new, others, memos)
            for other_step, other_fates, other_new, other in self.moves(kind, others):
                if step != other_step:
                    both = plain_alone(self.n, other_fates, other_new, new, first)
                    found.add((("two", one, new, other, other_new, both), 2))
                    if one == other:
                        found |= self.met(one, new, other_new, both, 2)
        return found

    def holding(self, kind, made, others, memos):
        found = set()
        frozen = self.home.is_frozen
        for _, fates, new, one in self.moves(kind, made):
            now = plain_alone(self.n, fates, new, others, memos)
            found.add((("held", kind, others, one, new, now, not frozen(kind) and not frozen(one)), 1))
            if one == kind and not frozen(kind):
                found |= self.met(kind, new, others, now, 1)
        return found

    def one(self, kind, made):
        found = {(("one", other, new), 2) for _, _, new, other in self.moves(kind, made)}
        memos = tuple(k in made for k in range(1, self.n + 1))
        return found | self.parting(kind, made, made, memos) | self.holding(kind, made, made, memos)

    def torn(self, kind, made, others, same, memos):
        if self.home.is_movable(kind) or self.home.is_leaf(kind):
            return set()
        found = {(("torn", kind, others, made, same, memos), 0)}
        for step, fates, new, one in self.moves(kind, made):
            for other_step, _, other_new, other in self.moves(kind, others):
                if step == other_step and one == other:
                    both = plain_together(self.n, fates, new, other_new, memos, same)
                    found |= self.met(one, new, other_new, both, 2, same)
        return found | self.parting(kind, made, others, memos) | self.holding(kind, made, others, memos)

    def two(self, kind, made, other_kind, others, memos):
        found = set()
        for _, fates, new, one in self.moves(kind, made):
            now = plain_alone(self.n, fates, new, others, memos)
            found.add((("two", one, new, other_kind, others, now), 1))
            if one == other_kind:
                found |= self.met(one, new, others, now, 1)
        for _, fates, new, one in self.moves(other_kind, others):
            now = plain_alone(self.n, fates, new, made, memos)
            found.add((("two", kind, made, one, new, now), 1))
            if one == kind:
                found |= self.met(one, made, new, now, 1)
        if kind == other_kind and self.home.is_leaf(kind) and self.home.key_of(kind) is None:
            if plain_meeting(self.lens.rules(kind), made, others, memos, None, False)[-1]:
                found.add((("joined", kind, made, others), 0))
        return found

    def held(self, kind, made, first_kind, first, memos, free):
        found = set()
        for _, fates, new, one in self.moves(first_kind, first):
            now = plain_alone(self.n, fates, new, made, memos)
            found.add((("held", kind, made, one, new, now, free and not self.home.is_frozen(one)), 1))
            if free and one == kind:
                found |= self.met(kind, new, made, now, 1)
        return found

    def joined(self, kind, made, others):
        return set()


def plain_steps(lens, standing):
    """The set of standings that follow, with their costs."""
    return getattr(PlainFollowing(lens), standing[0])(*standing[1:])


def plain_closure(row):
    """The least costs of all reached standings, lowered again and again until nothing changes."""
    lens = Lens(row)
    costs = {lens.start: 0}
    changed = [lens.start]
    steps = {}
    while changed:
        before, changed = changed, []
        for standing in before:
            if standing not in steps:
                steps[standing] = plain_steps(lens, standing)
            for other, cost in steps[standing]:
                if costs.get(other, 10 ** 9) > costs[standing] + cost:
                    costs[other] = costs[standing] + cost
                    changed.append(other)
    return costs
