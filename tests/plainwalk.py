"""A plain walk, by calls that call each other, with which the walks of the program are compared."""

from waypairs.editions import source_field


class PlainEnd(Exception):
    """The walk ends with an error, told by its name, and by the ring of an endless one."""

    def __init__(self, name, ring=None):
        self.name = name
        self.ring = ring


class PlainHeap:
    """Things as tuples (kind, values, origin, travel, memo)."""

    def __init__(self, web):
        self.things = [(kind, values, None, 0, None) for kind, values in web.things()]
        self.house = web.house
        self.root = 0
        self.level = 0
        self.home = len(web)

    def walk(self, travel, events):
        """Walks, and adds the events to a list."""
        made = PlainTravel(self, travel, events)
        try:
            root = made.arrive(self.root, made.memo())
        except PlainEnd:
            del self.things[made.before:]
            raise
        self.root = root
        self.house = travel.target
        self.level += 1


class PlainTravel:
    def __init__(self, heap, travel, events):
        self.heap = heap
        self.travel = travel
        self.events = events
        self.before = len(heap.things)
        self.memos = []
        self.way = []

    def memo(self):
        self.memos.append([])
        return len(self.memos) - 1

    def key(self, thing):
        kind, values = self.heap.things[thing][:2]
        rule = self.travel.rule(kind)
        if rule == "itself":
            return thing
        if rule == "never":
            return None
        return (kind, [values[name] for name in self.travel.source.marks_of(kind)])

    def arrive(self, thing, memo, put=None):
        """Arrives at a thing; put is called with what is given."""
        kind, values = self.heap.things[thing][:2]
        key = self.key(thing)
        for kept, new in self.memos[memo]:
            if key is not None and kept == key:
                self.events.append(("known", thing, new))
                if put is not None:
                    put(new)
                return new
        count = len(self.memos[memo])
        for at, (other, kept, number) in enumerate(self.way):
            if other == thing and kept == count and (count == 0 or number == memo):
                raise PlainEnd("Endless", tuple(one[0] for one in self.way[at:]))
        if len(self.heap.things) >= 4000:
            raise PlainEnd("TooLarge")
        new = len(self.heap.things)
        target = self.travel.target
        taken = {field.name: source_field(self.travel.source, target, kind, field.name)
                 for field in target.fields_of(kind)}
        blank = {field.name: field.default if field.mode == "mark" else None if field.mode == "link" else []
                 for field in target.fields_of(kind)}
        for name, source in taken.items():
            if isinstance(blank[name], int) and source is not None and self.travel.fate(kind, source) == "goes":
                blank[name] = values[source]
        self.heap.things.append((kind, blank, thing, self.heap.level + 1, memo))
        if key is not None:
            self.memos[memo].append((key, new))
        self.events.append(("enter", thing, new, memo))
        if put is not None:
            put(new)
        self.way.append((thing, count, memo))
        self.fields(thing, new, memo, {source: name for name, source in taken.items()})
        self.way.pop()
        self.events.append(("leave", thing))
        return new

    def fields(self, thing, new, memo, taken):
        kind, values = self.heap.things[thing][:2]
        for field in self.travel.source.fields_of(kind):
            value = values[field.name]
            if field.mode == "mark":
                continue
            for held in (value if field.mode == "list" else [value] if value is not None else []):
                self.take(field, held, memo, self.putter(new, taken.get(field.name), field.mode))

    def putter(self, new, name, mode):
        values = self.heap.things[new][1]

        def put(given):
            if name is not None and mode == "list":
                values[name].append(given)
            elif name is not None:
                values[name] = given
        return put

    def take(self, field, held, memo, put):
        fate = self.travel.fate(self.heap.things[self.way[-1][0]][0], field.name)
        if fate == "stays":
            self.events.append(("stays", held))
            put(held)
        elif fate == "named":
            kind, values = self.heap.things[held][:2]
            key = self.travel.source.key_of(kind)
            found = [at for at in range(self.heap.home) if self.heap.things[at][0] == kind
                     and self.heap.things[at][1][key] == values[key]][0]
            self.events.append(("named", held, found))
            put(found)
        elif fate in ("goes", "new"):
            self.arrive(held, memo if fate == "goes" else self.memo(), put)
