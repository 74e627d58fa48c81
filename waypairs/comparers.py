"""Comparers: how two things are compared, and the texts of comparers."""

from waypairs.errors import BadComparer, BadText
from waypairs.kinds import has_own


class Comparer:
    """The fields that are out and the guards of the kinds of a house."""

    GUARDS = ("none", "way left", "way right", "way pair", "way map", "way match",
              "lasting left", "lasting right", "lasting pair", "lasting map", "lasting match")

    def __init__(self, house, *, out=(), guards=None):
        guards = {} if guards is None else guards
        pairs = [(kind, field) for kind, field in out]
        for kind, field in pairs:
            if not has_own(house, kind, field):
                raise BadComparer(kind)
        for kind in sorted(guards):
            if kind not in house or guards[kind] not in Comparer.GUARDS:
                raise BadComparer(kind)
        self.house = house
        self.out = tuple([(kind, field.name) for kind in house.names for field in house.kind_named(kind).fields
                          if (kind, field.name) in pairs])
        self._entries = {kind: guards[kind] for kind in house.names if kind in guards}

    def __eq__(self, other):
        return (isinstance(other, Comparer) and self.house == other.house and self.out == other.out
                and self._entries == other._entries)

    def entry(self, kind):
        """The guard of a kind's own entry, or None."""
        self.house.kind_named(kind)
        return self._entries.get(kind)

    def guard_of(self, kind):
        """The guard of a kind: by its own entry, or else by that of its base."""
        base = self.house.kind_named(kind).base
        for name in (kind, base):
            if name in self._entries:
                return self._entries[name]
        return "none"

    def is_in(self, kind, field):
        """Whether a field of a kind, its own or its base's, is in."""
        self.house.field_of(kind, field)
        return (kind, field) not in self.out and (self.house.kind_named(kind).base, field) not in self.out

    def with_guard(self, kind, guard):
        """A comparer with this entry, or without one for None."""
        if kind not in self.house:
            raise BadComparer(kind)
        guards = dict(self._entries)
        if guard is not None:
            guards[kind] = guard
        elif kind in guards:
            del guards[kind]
        return Comparer(self.house, out=self.out, guards=guards)

    def with_out(self, kind, field):
        """A comparer with this own field of a kind out."""
        return Comparer(self.house, out=[*self.out, (kind, field)], guards=self._entries)

    def with_in(self, kind, field):
        """A comparer with this own field of a kind in."""
        if not has_own(self.house, kind, field):
            raise BadComparer(kind)
        out = [pair for pair in self.out if pair != (kind, field)]
        return Comparer(self.house, out=out, guards=self._entries)


def comparer_text(comparer):
    """The text of a comparer."""
    lines = ["comparer"]
    lines.extend([f"out {kind} {field}" for kind, field in comparer.out])
    for kind in comparer.house.names:
        if comparer.entry(kind) is not None:
            lines.append(f"guard {kind} {comparer.entry(kind)}")
    return "\n".join(lines)


def _is_right(house, words, out, guards):
    """Whether the words of a line behind the first one are right; out and guards are from earlier lines."""
    if words[0] == "out":
        return len(words) == 3 and has_own(house, words[1], words[2]) and (words[1], words[2]) not in out
    if words[0] != "guard" or len(words) < 3 or words[1] not in house or words[1] in guards:
        return False
    return " ".join(words[2:]) in Comparer.GUARDS


def read_comparer(house, text):
    """The comparer of a house with this text."""
    if not isinstance(text, str):
        raise BadText(-1)
    lines = text.split("\n")
    if lines[0] != "comparer":
        raise BadText(0)
    out = []
    guards = {}
    for at, line in enumerate(lines[1:], start=1):
        words = line.split(" ")
        if not _is_right(house, words, out, guards):
            raise BadText(at)
        if words[0] == "out":
            out.append((words[1], words[2]))
        else:
            guards[words[1]] = " ".join(words[2:])
    return Comparer(house, out=out, guards=guards)
