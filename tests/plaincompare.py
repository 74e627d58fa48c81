"""A plain comparison, by calls that call each other, plain causes, and drawn comparers."""

from tests.drawn import drawn_home
from waypairs.comparers import Comparer
from waypairs.manners import Manners
from waypairs.webs import Web

WITHOUT_OLD = [manners for manners in Manners.every() if "old" not in manners]


class PlainEnd(Exception):
    """The comparison is over, or has too many entries."""


class PlainComparing:
    """A comparison that keeps beside each event the notes and the pairs on the way behind it, and the entries."""

    def __init__(self, comparer, first, second, most):
        self.comparer, self.first, self.second, self.most = comparer, first, second, most
        self.notes = []
        self.way = []
        self.entries = 0
        self.told = []
        self.result = None
        try:
            self.meet(first.here, second.here)
            self.result = "equal"
        except PlainEnd as e:
            self.result = e.args[0]

    def tell(self, *event):
        self.told.append((event, sorted(self.notes), [pair for pair, _ in self.way], self.entries))

    def unlike(self, x, y, why, field):
        self.tell("unlike", x, y, why, field)
        raise PlainEnd("unlike")

    def meet(self, x, y):
        kind = self.first.kind_of(x)
        if kind != self.second.kind_of(y):
            self.unlike(x, y, "kind", None)
        guard = self.comparer.guard_of(kind)
        by = guard.split()[-1]
        has_left = any(left == x for left, _ in self.notes)
        has_right = any(right == y for _, right in self.notes)
        noted = (x, y) in self.notes
        asks = {"none": False, "left": has_left, "right": has_right, "pair": noted, "map": has_left,
                "match": has_left or has_right}[by]
        if asks:
            if by in ("map", "match") and not noted:
                self.unlike(x, y, "guard", None)
            self.tell("known", x, y)
            return
        self.enter(x, y, guard)

    def enter(self, x, y, guard):
        places = [at for at, (pair, _) in enumerate(self.way) if pair == (x, y)]
        if places and all(other == "none" for _, other in self.way[places[-1]:]):
            self.tell("endless", x, y)
            raise PlainEnd("endless")
        if self.entries == self.most:
            raise PlainEnd("TooLarge")
        self.entries += 1
        self.way.append(((x, y), guard))
        if guard != "none":
            self.notes.append((x, y))
        self.tell("enter", x, y)
        for field in self.first.house.fields_of(self.first.kind_of(x)):
            self.field(x, y, field)
        self.way.pop()
        if guard.startswith("way"):
            self.notes.remove((x, y))
        self.tell("leave", x, y)

    def field(self, x, y, field):
        kind = self.first.kind_of(x)
        owner = kind if field in self.first.house.kind_named(kind).fields else self.first.house.kind_named(kind).base
        if (owner, field.name) in self.comparer.out:
            return
        left, right = self.first[x, field.name], self.second[y, field.name]
        if field.mode == "mark":
            if left != right:
                self.unlike(x, y, "field", field.name)
            return
        left = left if field.mode == "list" else [] if left is None else [left]
        right = right if field.mode == "list" else [] if right is None else [right]
        if len(left) != len(right):
            self.unlike(x, y, "field", field.name)
        for one, other in zip(left, right):
            self.meet(one, other)


class PlainCauses:
    """The causes of a comparer by [9.7] to [9.9], from tables of the fewest steps between kinds."""

    def __init__(self, comparer, manners):
        self.comparer, self.manners, self.house = comparer, manners, comparer.house
        self.steps = [(kind, name, other) for kind in self.house.names for name in self.house.slots_of(kind)
                      if comparer.is_in(kind, name)
                      for other in self.house.admitted(self.house.field_of(kind, name).target)]
        self.whole = self.table(self.house.names)
        root = self.house.root
        self.depth = {kind: 0 if kind == root else self.whole[root, kind] for kind in self.house.names
                      if kind == root or (root, kind) in self.whole}

    def table(self, kinds):
        """The fewest steps, one or more, of chains all of whose kinds are these."""
        found = {(one, other): 1 for one, _, other in self.steps if one in kinds and other in kinds}
        for middle in kinds:
            for one in kinds:
                for other in kinds:
                    if (one, middle) in found and (middle, other) in found:
                        length = found[one, middle] + found[middle, other]
                        found[one, other] = min(length, found.get((one, other), length))
        return found

    def fork(self, kind, kinds=None):
        """The least length of a fork all of whose kinds are these, or None."""
        kinds = self.house.names if kinds is None else kinds
        table = self.table(kinds)
        root = self.house.root
        lengths = []
        if root not in kinds:
            return None
        for begin in kinds:
            depth = 0 if begin == root else table.get((root, begin))
            chains = []
            for name in self.house.slots_of(begin):
                rest = [0 if other == kind else table.get((other, kind)) for one, slot, other in self.steps
                        if one == begin and slot == name and other in kinds]
                rest = [one for one in rest if one is not None]
                if rest:
                    is_list = self.house.field_of(begin, name).mode == "list"
                    chains += [1 + min(rest)] * (2 if is_list else 1)
            if depth is not None and len(chains) > 1:
                lengths.append(depth + sum(sorted(chains)[:2]))
        return min(lengths, default=None)

    def sizes(self):
        """The tuples (result, kind, why, field, size), in order."""
        found = []
        for kind in self.house.names:
            if kind in self.depth:
                found += [(result, kind, why, field, size) for result, why, field, size in self.at(kind)]
        return found

    def at(self, kind):
        house, depth, guard = self.house, self.depth[kind], self.comparer.guard_of(kind)
        by = guard.split()[-1]
        lasting = guard.startswith("lasting")
        marks, fields, key = house.marks_of(kind), house.fields_of(kind), house.key_of(kind)
        ask = "ask" in self.manners
        apart = key is None and (ask or "set" in self.manners and house.is_movable(kind))
        ring, fork = self.whole.get((kind, kind)), self.fork(kind)
        guarded = [one for one in self.depth if self.comparer.guard_of(one) != "none"]
        free = [one for one in house.names if one not in guarded]
        for field in fields:
            if not self.comparer.is_in(kind, field.name):
                yield "equal", "out", field.name, 2 * depth + (2 if field.mode == "mark" else 3)
        sees = guard != "none" and (ring is not None or fork is not None and lasting)
        by_fork = lasting and fork is not None
        if by in ("left", "right") and sees and (fields or ask):
            more = 1 if fields and not marks else 0
            yield "equal", "known", None, 2 * fork + 1 + more if by_fork else 2 * (depth + ring) + 1
        if apart:
            if fork is not None and guard != "lasting match":
                yield "equal", "torn", None, 2 * fork + 1 + (2 if not ask and not marks else 0)
            elif by != "match":
                rings = [ring] if kind in guarded else [
                    self.whole[kind, one] + self.whole[one, kind] for one in guarded
                    if (kind, one) in self.whole and (one, kind) in self.whole]
                if rings and rings[0] is not None:
                    yield "equal", "torn", None, 2 * (depth + min(rings)) + 1
        if by in ("map", "match") and key is None:
            if not apart and sees:
                yield "unlike", "match", None, 2 * fork + 1 if by_fork else 2 * (depth + ring) + 1
            if apart and not ask and not marks and lasting:
                held = {other for field in fields if field.mode == "link" for other in house.admitted(field.target)}
                bare = self.fork(kind, [one for one in house.names if one not in held])
                if bare is not None and kind not in held:
                    yield "unlike", "match", None, 2 * bare + 1
        rounds = self.table(free).get((kind, kind))
        if guard == "none" and rounds is not None:
            yield "endless", "ring", None, 2 * (depth + rounds)


def drawn_comparer(chance, house, out=0.1):
    """A comparer with drawn fields that are out and drawn guards."""
    pairs = [(kind, field.name) for kind in house.names for field in house.kind_named(kind).fields
             if chance.random() < out]
    guards = {kind: chance.choice(Comparer.GUARDS) for kind in house.names if chance.random() < 0.85}
    return Comparer(house, out=pairs, guards=guards)


def drawn_pair(chance, house, most=6):
    """Two home webs that are often alike, or unlike in one step or mark alone."""
    first = drawn_home(chance, house, chance.randrange(1, most + 1), marks=chance.choice([1, 2]))
    if chance.random() < 0.3:
        return first, drawn_home(chance, house, chance.randrange(1, most + 1), marks=chance.choice([1, 2]))
    things = first.things()
    at = chance.randrange(len(things))
    kind = things[at][0]
    if house.key_of(kind) is None and chance.random() < 0.7:
        # A copy of a thing is held in the place of the thing by one of those that hold it.
        holders = [(one, field.name) for one, (other, values) in enumerate(things) for field in house.fields_of(other)
                   if field.mode != "mark" and at in (values[field.name] if field.mode == "list"
                                                      else [values[field.name]])]
        if holders and at:
            one, name = chance.choice(holders)
            things.append((kind, {field: list(value) if isinstance(value, list) else value
                                  for field, value in things[at][1].items()}))
            values = things[one][1]
            if isinstance(values[name], list):
                values[name][values[name].index(at)] = len(things) - 1
            else:
                values[name] = len(things) - 1
    elif house.marks_of(kind) and chance.random() < 0.3:
        name = house.marks_of(kind)[0]
        things[at][1][name] += 1000
    second = Web(house, things).trimmed()
    return (first, second) if chance.random() < 0.5 else (second, first)
