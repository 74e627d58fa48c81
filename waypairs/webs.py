"""Webs: things that hold each other by links and lists."""

from waypairs.errors import BadWeb, UnknownField
from waypairs.forms import is_index, is_mark_value


def _entry_kind(house, entry):
    """The kind with which an entry of a web begins, or None if it is no pair that begins with one."""
    if isinstance(entry, tuple) and len(entry) == 2 and entry[0] in house:
        return entry[0]
    return None


def _can_hold(house, field, value, kinds):
    """Whether a field can hold any value; kinds are those of the things, None for what is none."""
    if field.mode == "mark":
        return is_mark_value(value)
    if field.mode == "link":
        return value is None or _are_admitted(house, field, [value], kinds)
    if not isinstance(value, (list, tuple)) or len(value) > Web.PLACES:
        return False
    return _are_admitted(house, field, value, kinds)


def _are_admitted(house, field, numbers, kinds):
    """Whether all these values are numbers of things of admitted kinds."""
    admitted = house.admitted(field.target)
    return all([is_index(number, len(kinds)) and kinds[number] in admitted for number in numbers])


def _is_entry(house, entry, kinds):
    """Whether any value describes a thing; kinds are those with which the entries of the web begin."""
    kind = _entry_kind(house, entry)
    if kind is None or not isinstance(entry[1], dict):
        return False
    fields = {field.name: field for field in house.fields_of(kind)}
    for name, value in entry[1].items():
        if name not in fields or not _can_hold(house, fields[name], value, kinds):
            return False
    return True


def full_values(house, kind, given):
    """The values of all fields of a thing, in order, with copies of its lists."""
    values = {}
    for field in house.fields_of(kind):
        if field.mode == "mark":
            values[field.name] = given.get(field.name, field.default)
        elif field.mode == "link":
            values[field.name] = given.get(field.name)
        else:
            values[field.name] = list(given.get(field.name, []))
    return values


def renumbered(values, slots, numbers):
    """Values of a thing in which links and lists, the slots, hold other numbers."""
    new = dict(values)
    for name in slots:
        value = values[name]
        if isinstance(value, list):
            new[name] = [numbers[held] for held in value]
        elif value is not None:
            new[name] = numbers[value]
    return new


def held_things(values, slots):
    """The things to which the steps of a thing with these values lead; slots are the names of its links and lists."""
    held = []
    for name in slots:
        value = values[name]
        if isinstance(value, list):
            held.extend(value)
        elif value is not None:
            held.append(value)
    return held


def step_leads(values, slots, step):
    """The thing to which a step of a thing with these values leads; None for any value that is not a step of it."""
    if not isinstance(step, tuple) or len(step) != 2 or step[0] not in slots:
        return None
    field, place = step
    value = values[field]
    if isinstance(value, list):
        return value[place] if is_index(place, len(value)) else None
    return value if place is None else None


def met_from(holder, start):
    """The things of a web or heap that are reached from one of them, as they are met."""
    met = [start]
    seen = {start: True}
    at = 0
    while at < len(met):
        for held in holder.held_by(met[at]):
            if held not in seen:
                seen[held] = True
                met.append(held)
        at += 1
    return met


class Web:
    """Things of a house, numbered from 0, and the two roots."""

    THINGS = 4000
    PLACES = 200

    def __init__(self, house, things, *, here=0, old=None):
        if not isinstance(things, (list, tuple)) or not 1 <= len(things) <= Web.THINGS:
            raise BadWeb(-1)
        kinds = [_entry_kind(house, entry) for entry in things]
        for at, entry in enumerate(things):
            if not _is_entry(house, entry, kinds):
                raise BadWeb(at)
        if not is_index(here, len(things)) or not (old is None or is_index(old, len(things))):
            raise BadWeb(-1)
        self.house = house
        self.here = here
        self.old = old
        self._kinds = kinds
        self._values = [full_values(house, kind, given) for kind, given in things]

    def __eq__(self, other):
        return (isinstance(other, Web) and self.here == other.here and self.old == other.old
                and self._kinds == other._kinds and self._values == other._values and self.house == other.house)

    def __len__(self):
        return len(self._kinds)

    def __contains__(self, x):
        return is_index(x, len(self._kinds))

    def __getitem__(self, at):
        thing, field = at
        value = self._value(thing, field)
        return list(value) if isinstance(value, list) else value

    def __iter__(self):
        raise TypeError("a web is not iterated over")

    def _check(self, thing):
        """Raises for any value that is not the number of a thing."""
        if thing not in self:
            raise BadWeb(thing)

    def _value(self, thing, field):
        """The value of a field, no copy; raises for any value that is no thing or no field of it."""
        self._check(thing)
        if not isinstance(field, str) or field not in self._values[thing]:
            raise UnknownField(self._kinds[thing], field)
        return self._values[thing][field]

    def kind_of(self, thing):
        """The name of the kind of a thing."""
        self._check(thing)
        return self._kinds[thing]

    def things(self):
        """The pairs (kind, values) of all things, with all fields."""
        return [(kind, full_values(self.house, kind, values)) for kind, values in zip(self._kinds, self._values)]

    def steps(self, thing):
        """The steps of a thing, in order."""
        steps = []
        for name in self.house.slots_of(self.kind_of(thing)):
            value = self._values[thing][name]
            if isinstance(value, list):
                steps.extend([(name, place) for place in range(len(value))])
            elif value is not None:
                steps.append((name, None))
        return steps

    def held_by(self, thing):
        """The things to which the steps of a thing lead, in the order of its steps."""
        slots = self.house.slots_of(self.kind_of(thing))
        return held_things(self._values[thing], slots)

    def follow(self, thing, step):
        """The thing to which a step leads; None for any value that is not a step of the thing."""
        slots = self.house.slots_of(self.kind_of(thing))
        return step_leads(self._values[thing], slots, step)

    def thing_at(self, way, *, start=None):
        """The thing to which a way leads from start, or from here; None if it is not a way from there."""
        thing = self.here if start is None else start
        self._check(thing)
        for step in way:
            thing = self.follow(thing, step)
            if thing is None:
                return None
        return thing

    def reached(self, *, both=False):
        """The things that are reached from here, as they are met; with both, behind them those from old."""
        met = met_from(self, self.here)
        if both and self.old is not None:
            seen = {thing: True for thing in met}
            return met + [thing for thing in met_from(self, self.old) if thing not in seen]
        return met

    def trimmed(self):
        """The web of the things that the roots reach, numbered as they are met."""
        met = self.reached(both=True)
        numbers = {thing: at for at, thing in enumerate(met)}
        return self.numbered(met, numbers)

    def numbered(self, chosen, numbers):
        """The web of the chosen things, in this order; numbers tells the new number of each thing that is held."""
        things = []
        for thing in chosen:
            kind = self._kinds[thing]
            things.append((kind, renumbered(self._values[thing], self.house.slots_of(kind), numbers)))
        old = None if self.old is None else numbers[self.old]
        return Web(self.house, things, here=numbers[self.here], old=old)

    def with_value(self, thing, field, value):
        """A web in which a field of a thing has another value."""
        self._value(thing, field)
        # A value that the field cannot hold is refused with the number of the thing when the web is made.
        things = self.things()
        values = things[thing][1]
        values[field] = value
        return self.with_things(things)

    def with_things(self, things):
        """A web of the same house with the same roots and other things."""
        return Web(self.house, things, here=self.here, old=self.old)

    def rooted(self, here, *, old=None):
        """A web with the same things and these roots."""
        return Web(self.house, self.things(), here=here, old=old)

    def ways(self, most):
        """Generates the first ways from here, at most this many: shorter ones first, then by their steps."""
        queue = [([], self.here)]
        at = 0
        while at < len(queue) and at < most:
            way, thing = queue[at]
            if len(queue) < most:
                for step, held in zip(self.steps(thing), self.held_by(thing)):
                    queue.append(([*way, step], held))
            at += 1
            yield way
