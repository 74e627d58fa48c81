"""Runs of clients on webs."""

from waypairs.clientlines import LINES, is_line, known_names
from waypairs.clients import check
from waypairs.errors import BadClient
from waypairs.sights import told_sight

# The mode that the field of a mark, link or clear line must have.
SET_MODES = {"mark": "mark", "link": "link", "clear": "list"}


class Session:
    """A client that is done line by line on a web, which itself stays as it is."""

    def __init__(self, web):
        self.count = 0
        self._web = web
        # What the known names hold, None for nothing.
        self._held = {"here": web.here, "old": web.old}
        # The values of the fields that lines have set, by thing and field.
        self._changed = {}

    def do(self, line):
        """Does a line and returns its tell."""
        if self.count >= LINES or not is_line(line, self._held) or self._lacks_old(line):
            raise BadClient(self.count)
        tell = self._done(line)
        self.count += 1
        return tell

    def tried(self, lines):
        """The tells of lines that are done and taken back."""
        # The lines are done by a session in the same state, so that nothing need be taken back here.
        other = Session(self._web)
        other.count = self.count
        other._held = dict(self._held)
        other._changed = {spot: self._changed[spot] for spot in self._changed}
        return [other.do(line) for line in lines]

    def holds(self, name):
        """The number of the thing that any value, a name, holds, or None."""
        return self._held.get(name) if isinstance(name, str) else None

    def held_names(self):
        """The names that hold a thing, ascending."""
        return sorted([name for name in self._held if self._held[name] is not None])

    def web_now(self):
        """A web of the things as they are now."""
        things = self._web.things()
        for thing, field in self._changed:
            values = things[thing][1]
            values[field] = self._changed[thing, field]
        return self._web.with_things(things)

    def _lacks_old(self, line):
        """Whether old stands as a known name in a right line, but the web has none."""
        return self._web.old is None and "old" in known_names(line)

    def _value(self, thing, field):
        """The value of a field as it is now."""
        if (thing, field) in self._changed:
            return self._changed[thing, field]
        return self._web[thing, field]

    def _field(self, thing, name):
        """The field of a thing with this name, or None."""
        for field in self._web.house.fields_of(self._web.kind_of(thing)):
            if field.name == name:
                return field
        return None

    def _done(self, line):
        """Does a right line; its tell."""
        if line[0] == "step":
            return self._step(line)
        things = [self._held[name] for name in known_names(line)]
        if None in things:
            return "none"
        if line[0] == "see":
            return self._seen(things[0])
        if line[0] == "same":
            return things[0] == things[1]
        return self._set(line, things)

    def _step(self, line):
        """Does a step line; its tell."""
        thing = self._held[line[2]]
        found = None if thing is None else self._led(thing, line[3], line[4])
        self._held[line[1]] = found
        return "none" if found is None else "thing"

    def _led(self, thing, name, place):
        """The thing to which a field, at a place of a list, leads now, or None."""
        field = self._field(thing, name)
        if field is None or field.mode == "mark" or (field.mode == "link") != (place is None):
            return None
        value = self._value(thing, name)
        if field.mode == "link":
            return value
        return value[place] if place < len(value) else None

    def _seen(self, thing):
        """What a see line tells of a thing."""
        kind = self._web.kind_of(thing)
        fields = self._web.house.fields_of(kind)
        return told_sight(kind, fields, [self._value(thing, field.name) for field in fields])

    def _can_set(self, line, things):
        """Whether a mark, link or clear line can change the first of its things."""
        house = self._web.house
        kind = self._web.kind_of(things[0])
        field = self._field(things[0], line[2])
        if house.is_frozen(kind) or field is None or field.mode != SET_MODES[line[0]]:
            return False
        if len(things) == 2:
            return house.admits(field.target, self._web.kind_of(things[1]))
        return field.name != house.key_of(kind)

    def _set(self, line, things):
        """Does a mark, link or clear line; its tell."""
        if not self._can_set(line, things):
            return "no"
        if line[0] == "mark":
            value = line[3]
        elif line[0] == "link":
            value = things[1] if len(things) == 2 else None
        else:
            value = []
        self._changed[things[0], line[2]] = value
        return "done"


def run(client, web):
    """The tells of a client on a web."""
    check(client)
    # All lines are right: the session refuses none but the first one with an old that the web does not have.
    session = Session(web)
    return [session.do(line) for line in client]


def first_difference(client, first, second):
    """The line at which a client tells two webs of equal houses apart, or None."""
    told = run(client, first)
    other = run(client, second)
    for at in range(len(told)):
        if told[at] != other[at]:
            return at
    return None
