"""Houses, home webs, editions, travels and rows that are drawn by a chance with a given seed."""

from waypairs.editions import reader_fault
from waypairs.errors import WayError
from waypairs.kinds import Field, House, Kind
from waypairs.rows import Row
from waypairs.rules import is_home
from waypairs.travels import Travel
from waypairs.webs import Web

OTHERS = ["Node", "Base", "Froz", "Leaf", "Tag", "Note", "Dot"]
LETTERS = {"Root": "abcdef", "Node": "abcdef", "Base": "abcd", "Heir": "pqrs", "Froz": "abcd", "Leaf": "ab",
           "Tag": "ktu", "Note": "kn", "Dot": ""}


def drawn_fields(chance, kind, names):
    """Own fields for a kind of one of the sorts above."""
    letters = LETTERS[kind]
    if kind in ("Tag", "Note"):
        return [Field(letter, "mark", default=chance.randrange(2)) for letter in letters[:chance.randrange(1, 3)]]
    marks = chance.randrange(3)
    slots = 0 if kind in ("Leaf", "Dot") else chance.randrange(1 if kind == "Root" else 0, 4)
    found = [Field(letters[at], "mark", default=chance.randrange(3)) for at in range(min(marks, len(letters)))]
    for letter in letters[len(found):len(found) + slots]:
        target = chance.choice([*names, "any", "Root"])
        found.append(Field(letter, chance.choice(["link", "list"]), target=target))
    chance.shuffle(found)
    return found


def drawn_kind(chance, kind, names):
    fields = drawn_fields(chance, kind, names)
    if kind in ("Tag", "Note"):
        return Kind(kind, fields, key="k", registered=kind == "Tag")
    return Kind(kind, fields, base="Base" if kind == "Heir" else None, heirs=kind == "Base", frozen=kind == "Froz")


def drawn_house(chance, *, with_kinds=()):
    """A house with the root kind Root and some others."""
    while True:
        names = ["Root", *with_kinds]
        names += chance.sample([name for name in OTHERS if name not in names], chance.randrange(1, 5))
        if "Base" in names:
            names.append("Heir")
        try:
            return House("Root", [drawn_kind(chance, name, names) for name in names])
        except WayError:
            continue


def drawn_home(chance, house, most, *, marks=3, different=False):
    """A home web of at most this many things; with different marks that are all different."""
    things = [(house.root, {})]
    keys = list(range(100, 100 + most))
    chance.shuffle(keys)
    for _ in range(most - 1):
        at = chance.randrange(len(things))
        slots = house.slots_of(things[at][0])
        if slots:
            field = house.field_of(things[at][0], chance.choice(slots))
            kind = chance.choice(house.admitted(field.target))
            if hold(things[at][1], field, len(things)):
                things.append((kind, {}))
    for kind, values in things:
        for field in house.fields_of(kind):
            if field.mode == "mark":
                values[field.name] = keys.pop() if field.name == house.key_of(kind) else chance.randrange(marks)
                continue
            admitted = [at for at, other in enumerate(things) if other[0] in house.admitted(field.target)]
            for _ in range(chance.randrange(3)):
                if admitted:
                    hold(values, field, chance.choice(admitted))
    if different:
        number = 1000
        for kind, values in things:
            for name in house.marks_of(kind):
                number += 1
                values[name] = number
    web = Web(house, things)
    assert is_home(web)
    return web


def hold(values, field, thing):
    """Lets a field hold a thing if it can hold one more."""
    if field.mode == "list":
        values.setdefault(field.name, []).append(thing)
    elif values.get(field.name) is None:
        values[field.name] = thing
    else:
        return False
    return True


def drawn_edition(chance, house):
    """A house that is an edition of this one, with fields renamed, dropped, added, and of other defaults."""
    while True:
        kinds = []
        for name in house.names:
            kind = house.kind_named(name)
            fields = list(kind.fields)
            if not kind.registered:
                fields = [changed_field(chance, field) for field in fields if chance.random() < 0.9
                          or field.name == kind.key]
                if chance.random() < 0.2:
                    fields.append(Field(chance.choice("xyz"), "mark", default=chance.randrange(3)))
                if chance.random() < 0.2 and kind.key is None and not kind.frozen:
                    fields.append(Field(chance.choice("vw"), "link", target=chance.choice(house.names)))
                chance.shuffle(fields)
            try:
                kinds.append(Kind(name, fields, base=kind.base, frozen=kind.frozen, heirs=kind.heirs, key=kind.key,
                                  registered=kind.registered))
            except WayError:
                break
        try:
            reader = house.with_kinds(kinds)
        except WayError:
            continue
        if reader_fault(house, reader) is None:
            return reader


def changed_field(chance, field):
    draw = chance.random()
    if field.name == "k" or draw < 0.6:
        return field
    if draw < 0.9:
        new = chance.choice("abcdefpqrsxyz")
        was = [former for former in (field.name, *field.was) if former != new][:2]
        return Field(new, field.mode, target=field.target, default=field.default, was=was)
    if field.mode == "mark":
        return Field(field.name, "mark", default=field.default + 1, was=field.was)
    return Field(field.name, field.mode, target="any", was=field.was)


def drawn_travel(chance, source, *, reader=None, fates=("goes", "new", "stays", "lost", "named")):
    """A travel with drawn fates, out of these where they fit, and drawn rules."""
    chosen = {}
    rules = {}
    for kind in source.names:
        for field in source.kind_named(kind).fields:
            fitting = []
            for fate in fates:
                try:
                    Travel(source, fates={(kind, field.name): fate}, reader=reader)
                    fitting.append(fate)
                except WayError:
                    pass
            weights = [1 if fate in ("lost", "new", "stays") else 4 for fate in fitting]
            if fitting:
                chosen[kind, field.name] = chance.choices(fitting, weights)[0]
        rules[kind] = chance.choice(["itself", "itself", "never", "marks"])
        if rules[kind] == "marks" and not source.marks_of(kind):
            rules[kind] = "itself"
    return Travel(source, fates=chosen, rules=rules, reader=reader)


def drawn_row(chance, home, size, *, saving=0.5, fates=("goes", "new", "stays", "lost", "named")):
    """A row of this many travels, some of them saving ones, over drawn editions."""
    while True:
        travels = []
        house = home
        for at in range(size):
            reader = None
            if at == size - 1 and house != home:
                reader = home
            elif chance.random() < saving:
                reader = chance.choice([home, house, drawn_edition(chance, house)])
                reader = home if at == size - 1 else reader
            if reader is not None and reader_fault(house, reader) is not None:
                break
            travels.append(drawn_travel(chance, house, reader=reader, fates=fates))
            house = travels[-1].target
        if len(travels) == size:
            return Row(travels)
