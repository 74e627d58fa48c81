"""Plain searches and chance, with which the answers of the program are compared."""

from tests.samples import node_house
from waypairs.webs import Web

NODE = node_house()


def some_web(chance, count, *, house=NODE, kinds=("Node",), old=False, marks=2, places=3):
    """A web of the house with any things of the kinds, mostly reached."""
    names = [chance.choice(kinds) for _ in range(count)]
    things = []
    for name in names:
        values = {}
        for field in house.fields_of(name):
            if field.mode == "mark":
                values[field.name] = chance.randrange(marks)
                continue
            fitting = [at for at, other in enumerate(names) if house.admits(field.target, other)]
            if field.mode == "link":
                values[field.name] = chance.choice([None, *fitting])
            elif fitting:
                values[field.name] = [chance.choice(fitting) for _ in range(chance.randrange(places + 1))]
        things.append((name, values))
    return Web(house, things, here=chance.randrange(count), old=chance.randrange(count) if old else None)


def some_client(chance, count, manners, *, fields=("age", "next", "all")):
    """A client of this many lines that has the manners."""
    known = ["here", "old"] if "old" in manners else ["here"]
    words = ["step", "step", "see"]
    words += ["same"] if "ask" in manners else []
    words += ["mark", "link", "clear"] if "set" in manners else []
    client = []
    for _ in range(count):
        word, name, field = chance.choice(words), chance.choice(known), chance.choice(fields)
        if word == "step":
            new = chance.choice("abcd")
            client.append(("step", new, name, field, chance.choice([None, None, 0, 1, 5])))
            if new not in known:
                known.append(new)
        elif word == "see":
            client.append(("see", name))
        elif word == "same":
            client.append(("same", name, chance.choice(known)))
        elif word == "mark":
            client.append(("mark", name, field, chance.randrange(-3, 4)))
        elif word == "link":
            client.append(("link", name, field, chance.choice([None, *known])))
        else:
            client.append(("clear", name, field))
    return client


def shuffled(chance, web):
    """The web with its things numbered in another way."""
    order = list(range(len(web)))
    chance.shuffle(order)
    place = {thing: at for at, thing in enumerate(order)}
    things = []
    for thing in order:
        kind, values = web.things()[thing]
        new = {}
        for name, value in values.items():
            mode = web.house.field_of(kind, name).mode
            if mode == "mark" or value is None:
                new[name] = value
            else:
                new[name] = [place[one] for one in value] if mode == "list" else place[value]
        things.append((kind, new))
    return Web(web.house, things, here=place[web.here], old=None if web.old is None else place[web.old])
