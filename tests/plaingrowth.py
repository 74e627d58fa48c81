"""Entry graphs, ranks, spreads and moves by plain sets, as the document tells them, and drawn travels for them."""

from tests.samples import link, many, mark
from waypairs.kinds import House, Kind
from waypairs.travels import Travel


class PlainEntries:
    """What [8.1] to [8.9] say of a travel, found by sets of tuples."""

    def __init__(self, travel):
        self.travel = travel
        self.house = travel.source
        copied = {(kind, field.name, field.mode, travel.fate(kind, field.name), other)
                  for kind in self.house.names for field in self.house.fields_of(kind) if field.mode != "mark"
                  for other in self.house.admitted(field.target)}
        copied = {step for step in copied if step[3] in ("goes", "new")}
        self.entered = {self.house.root}
        while True:
            more = {step[4] for step in copied if step[0] in self.entered} - self.entered
            if not more:
                break
            self.entered |= more
        self.copied = {step for step in copied if step[0] in self.entered}
        self.going = {step for step in self.copied if step[3] == "goes"}
        # The pairs (kind, kind) of those to which going steps lead, and with no step at all.
        self.far = {(step[0], step[4]) for step in self.going}
        for middle in self.house.names:
            for one in self.house.names:
                for other in self.house.names:
                    if (one, middle) in self.far and (middle, other) in self.far:
                        self.far.add((one, other))
        self.near = self.far | {(kind, kind) for kind in self.entered}

    def never(self, kind):
        return self.travel.rule(kind) == "never"

    def met(self, kind):
        return {other for other in self.entered if (kind, other) in self.near and not self.never(other)}

    def edges(self):
        found = set()
        for kind, field, _, fate, other in self.copied:
            if self.never(other):
                found.add((kind, field, other))
            if fate == "new":
                found |= {(kind, field, one) for one in self.met(other)}
        return found

    def ordered_edges(self):
        names = self.house.names
        return sorted(self.edges(), key=lambda edge: (names.index(edge[0]), self.house.slots_of(edge[0]).index(edge[1]),
                                                      names.index(edge[2])))

    def ranks(self):
        """The longest rows of edges, tried one longer each time; None if they get too long."""
        ranks = {kind: 0 for kind in self.entered}
        for _ in range(len(self.entered) + 1):
            for kind, _, other in self.edges():
                ranks[kind] = max(ranks[kind], ranks[other] + 1)
            if max(ranks.values()) > len(self.entered):
                return None
        return ranks if max(ranks.values()) < len(self.entered) else None

    def weight(self, kind, size):
        total = 1
        for one, field, other in self.edges():
            if one == kind:
                is_list = self.house.field_of(kind, field).mode == "list"
                total += self.weight(other, size) * (size if is_list else 1) * (1 if self.never(other) else size)
        return total

    def most(self, size):
        root = self.house.root
        return self.weight(root, size) + size * sum(self.weight(kind, size) for kind in self.met(root))

    def begins(self, kind, field, goal):
        """Whether going steps lead from a kind to another one, the first one by this field."""
        return any(step[0] == kind and step[1] == field and (step[4], goal) in self.near for step in self.going)

    def spreads(self, kind):
        found = set()
        for end in self.met(kind):
            lists = [step for step in self.going if step[2] == "list"]
            if any((kind, step[0]) in self.near and (step[4], end) in self.near for step in lists):
                found.add(("spread", end, None))
            for middle in self.entered:
                fields = {step[1] for step in self.going if step[0] == middle}
                if (kind, middle) in self.near and any(
                        self.begins(middle, one, middle) and self.begins(middle, other, end)
                        for one in fields for other in fields if one != other):
                    found.add(("spread", end, None))
            ring = {(end, step[1]) for step in self.going if step[0] == end and self.begins(end, step[1], end)}
            while True:
                more = {(step[4], field) for one, taken in ring for step in self.going
                        if step[0] == one and step[1] == taken and self.never(step[4])
                        for field in {other[1] for other in self.going if other[0] == step[4]}
                        if self.begins(step[4], field, end)} - ring
                if not more:
                    break
                ring |= more
            found |= {("spread", *one) for one in ring}
        return found

    def moves(self, state):
        found = {}

        def add(other, gain):
            found[other] = max(gain, found.get(other, gain))

        def anew(kind, gain):
            for other in self.met(kind):
                add(("point", other), gain)
            for spread in self.spreads(kind):
                add(spread, gain + 1)
        if state == ("start",):
            add(("point", self.house.root), 0)
            anew(self.house.root, 0)
            return found
        for kind, field, mode, fate, other in self.copied:
            if kind != state[1] or (state[0] == "spread" and state[2] == field):
                continue
            gain = 1 if state[0] == "point" and mode == "list" else 0
            if self.never(other):
                add(("point", other), gain)
            if fate == "new":
                anew(other, gain)
        return found

    def numbers(self):
        """The reached states with the greatest sums of gains of moves from them on."""
        moves = {}
        ahead = [("start",)]
        while ahead:
            state = ahead.pop()
            if state not in moves:
                moves[state] = self.moves(state)
                ahead.extend(moves[state])

        def number(state):
            return max([gain + number(other) for other, gain in moves[state].items()], default=0)
        return {state: number(state) for state in moves}

    def states(self):
        """All states, reached or not."""
        found = {("start",)}
        for kind in self.entered:
            found |= {("point", kind), ("spread", kind, None)}
            found |= {("spread", kind, step[1]) for step in self.going if step[0] == kind}
        return found


def drawn_layers(chance, most=5):
    """A travel whose new memos mostly begin behind kinds that do not lead back, so that its walk often ends."""
    names = ["Aa", "Bb", "Cc", "Dd", "Ee", "Ff", "Gg"][:chance.randrange(2, most + 1)]
    places = sorted(chance.randrange(len(names)) for _ in names)
    kinds = []
    fates = {}
    rules = {}
    for place, name in zip(places, names):
        fields = [mark("m")] if chance.random() < 0.7 else []
        for letter in "abcd"[:chance.randrange(1, 5)]:
            later = [other for at, other in zip(places, names) if at > place]
            target, fate = chance.choice([other for at, other in zip(places, names) if at == place]), "goes"
            if later and chance.random() < 0.6:
                target, fate = chance.choice(later), chance.choice(["new", "new", "goes"])
            fields.append(chance.choice([link, link, many])(letter, target))
            fates[name, letter] = fate
        kinds.append(Kind(name, fields))
        rules[name] = chance.choice(["itself", "itself", "never", "marks" if fields[0].mode == "mark" else "itself"])
    return Travel(House("Aa", kinds), fates=fates, rules=rules)


def size_of(web):
    """The number of the things and list places of a web."""
    return len(web) + sum(len(value) for _, values in web.things() for value in values.values()
                          if isinstance(value, list))
