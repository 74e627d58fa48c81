"""Plain searches and chance, with which the answers of the program are compared."""

from tests.samples import node_house
from waypairs.webs import Web

NODE = node_house()


def some_web(chance, count, *, house=NODE, kinds=("Node",), old=False, marks=2, places=3):
    """A web of the house with any things of the kinds, mostly reached."""
    names = [chance.choice(kinds) for _ in range(count)]
    things = []
    for name in names:
        values = {}
        for field in house.fields_of(name):
            if field.mode == "mark":
                values[field.name] = chance.randrange(marks)
                continue
            fitting = [at for at, other in enumerate(names) if house.admits(field.target, other)]
            if field.mode == "link":
                values[field.name] = chance.choice([None, *fitting])
            elif fitting:
                values[field.name] = [chance.choice(fitting) for _ in range(chance.randrange(places + 1))]
        things.append((name, values))
    return Web(house, things, here=chance.randrange(count), old=chance.randrange(count) if old else None)


def some_client(chance, count, manners, *, fields=("age", "next", "all")):
    """A client of this many lines that has the manners."""
    known = ["here", "old"] if "old" in manners else ["here"]
    words = ["step", "step", "see"]
    words += ["same"] if "ask" in manners else []
    words += ["mark", "link", "clear"] if "set" in manners else []
    client = []
    for _ in range(count):
        word, name, field = chance.choice(words), chance.choice(known), chance.choice(fields)
        if word == "step":
            new = chance.choice("abcd")
            client.append(("step", new, name, field, chance.choice([None, None, 0, 1, 5])))
            if new not in known:
                known.append(new)
        elif word == "see":
            client.append(("see", name))
        elif word == "same":
            client.append(("same", name, chance.choice(known)))
        elif word == "mark":
            client.append(("mark", name, field, chance.randrange(-3, 4)))
        elif word == "link":
            client.append(("link", name, field, chance.choice([None, *known])))
        else:
            client.append(("clear", name, field))
    return client


def shuffled(chance, web):
    """The web with its things numbered in another way."""
    order = list(range(len(web)))
    chance.shuffle(order)
    place = {thing: at for at, thing in enumerate(order)}
    things = []
    for thing in order:
        kind, values = web.things()[thing]
        new = {}
        for name, value in values.items():
            mode = web.house.field_of(kind, name).mode
            if mode == "mark" or value is None:
                new[name] = value
            else:
                new[name] = [place[one] for one in value] if mode == "list" else place[value]
        things.append((kind, new))
    return Web(web.house, things, here=place[web.here], old=None if web.old is None else place[web.old])


def plain_sight(web, thing):
    """The sight of a thing, from its values alone."""
    kind, values = web.things()[thing]
    modes = {field.name: field.mode for field in web.house.fields_of(kind)}
    marks = [value for name, value in values.items() if modes[name] == "mark"]
    slots = [len(value) if modes[name] == "list" else value is not None
             for name, value in values.items() if modes[name] != "mark"]
    return (kind, marks, slots)


def plain_ranks(first, second):
    """The ranks of all pairs by a plain table, filled in again until nothing changes."""
    pairs = [(x, y) for x in range(len(first)) for y in range(len(second))]
    ranks = {pair: 0 for pair in pairs if plain_sight(first, pair[0]) != plain_sight(second, pair[1])}
    for rank in range(len(pairs) + 1):
        for x, y in pairs:
            if (x, y) not in ranks:
                nexts = [(first.follow(x, step), second.follow(y, step)) for step in first.steps(x)]
                if any(ranks.get(pair) == rank for pair in nexts):
                    ranks[x, y] = rank + 1
    return ranks


def plain_walk(first, second, manners):
    """The walked pairs, in the order of first meeting."""
    pairs = [(first.here, second.here)]
    if "old" in manners and (first.old, second.old) not in pairs:
        pairs.append((first.old, second.old))
    for x, y in pairs:
        if plain_sight(first, x) == plain_sight(second, y):
            for step in first.steps(x):
                pair = (first.follow(x, step), second.follow(y, step))
                if pair not in pairs:
                    pairs.append(pair)
    return pairs


def plain_movable(web, thing, manners):
    house, kind = web.house, web.kind_of(thing)
    reached = web.reached(both="old" in manners)
    if house.is_frozen(kind):
        return False
    for field in house.fields_of(kind):
        if field.mode == "mark" and field.name != house.key_of(kind):
            return True
        if field.mode != "mark" and web[thing, field.name] not in (None, []):
            return True
        if field.mode == "link" and any(house.admits(field.target, web.kind_of(one)) for one in reached):
            return True
    return False


def plain_alike(first, second, manners):
    pairs = plain_walk(first, second, manners)
    if any(plain_sight(first, x) != plain_sight(second, y) for x, y in pairs):
        return False
    for one in pairs:
        for other in pairs:
            for web, place in ((first, 0), (second, 1)):
                if one != other and one[place] == other[place]:
                    if "ask" in manners or ("set" in manners and plain_movable(web, one[place], manners)):
                        return False
    return True


class PlainState:
    """What a client can have come to on two webs: the pairs that names hold, and the values of both webs."""

    def __init__(self, held, values):
        self.held = held
        self.values = values

    def told(self):
        return (tuple(sorted(self.held)), repr(self.values))


def plain_lines(state, manners, house, kinds, numbers):
    """For each line that a client can do next: None if it tells the webs apart, otherwise the state behind it."""
    frozen = [house.is_frozen(kind) for kind in kinds[0]]
    for x, y in state.held:
        left, right = state.values[0][x], state.values[1][y]
        if kinds[0][x] != kinds[1][y] or shape(house, kinds[0][x], left) != shape(house, kinds[1][y], right):
            yield None
            return
    if "ask" in manners:
        for one in state.held:
            for other in state.held:
                if (one[0] == other[0]) != (one[1] == other[1]):
                    yield None
                    return
    for x, y in state.held:
        for field in house.fields_of(kinds[0][x]):
            left, right = state.values[0][x][field.name], state.values[1][y][field.name]
            if field.mode == "link" and left is not None:
                yield PlainState(state.held | {(left, right)}, state.values)
            if field.mode == "list":
                for pair in zip(left, right):
                    yield PlainState(state.held | {pair}, state.values)
            if "set" not in manners or frozen[x] or field.name == house.key_of(kinds[0][x]):
                continue
            if field.mode == "mark":
                worths = [(number, number) for number in numbers]
            elif field.mode == "list":
                worths = [([], [])]
            else:
                worths = [(None, None)] + [pair for pair in state.held
                                           if house.admits(field.target, kinds[0][pair[0]])]
            for worth, other in worths:
                yield PlainState(state.held, (changed(state.values[0], x, field.name, worth),
                                              changed(state.values[1], y, field.name, other)))


def shape(house, kind, values):
    return [values[field.name] if field.mode == "mark" else values[field.name] is not None if field.mode == "link"
            else len(values[field.name]) for field in house.fields_of(kind)]


def changed(values, thing, name, worth):
    new = list(values)
    new[thing] = {**values[thing], name: worth}
    return new


def plain_fewest(first, second, manners, most):
    """The fewest lines of a client with the manners that tells the webs apart, None if it has more than most.

    A plain search through all clients. Names are only ever added, because giving one again helps nobody.
    """
    kinds = ([kind for kind, _ in first.things()], [kind for kind, _ in second.things()])
    held = {(first.here, second.here)} | ({(first.old, second.old)} if "old" in manners else set())
    states = [PlainState(frozenset(held), ([one for _, one in first.things()], [one for _, one in second.things()]))]
    seen = {states[0].told()}
    for lines in range(1, most + 1):
        found = []
        for state in states:
            for after in plain_lines(state, manners, first.house, kinds, (0, 7)):
                if after is None:
                    return lines
                if after.told() not in seen:
                    seen.add(after.told())
                    found.append(after)
        states = found
    return None
