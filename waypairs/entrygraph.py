"""Entry graphs: which kinds a walk enters anew, again and again."""

from waypairs.errors import UnknownKind


def copied_steps(travel, kind, *, going=False):
    """The copied steps (field, kind) from a kind, or the going ones alone."""
    source = travel.source
    fates = ("goes",) if going else ("goes", "new")
    found = []
    for name in source.slots_of(kind):
        if travel.fate(kind, name) in fates:
            found.extend([(name, other) for other in source.admitted(source.field_of(kind, name).target)])
    return found


def _entered(travel):
    """The entered kinds, in the order of the house."""
    found = [travel.source.root]
    at = 0
    while at < len(found):
        for _, other in copied_steps(travel, found[at]):
            if other not in found:
                found.append(other)
        at += 1
    return tuple([kind for kind in travel.source.names if kind in found])


def _kinds_ahead(going, start):
    """The kinds to which going steps lead, from the start kinds on, these included; going has the steps of each."""
    found = list(start)
    at = 0
    while at < len(found):
        for _, other in going[found[at]]:
            if other not in found:
                found.append(other)
        at += 1
    return [kind for kind in going if kind in found]


class EntryGraph:
    """The entered kinds of a travel and the edges between them."""

    def __init__(self, travel):
        self.travel = travel
        self.entered = _entered(travel)
        self._going = {kind: copied_steps(travel, kind, going=True) for kind in self.entered}
        self._edges = [edge for kind in self.entered for edge in self._edges_from(kind)]

    def __len__(self):
        return len(self._edges)

    def __iter__(self):
        return iter(self._edges)

    def check_entered(self, kind):
        """Raises for any value that is not an entered kind."""
        if kind not in self.entered:
            raise UnknownKind(kind)

    def is_known(self, kind):
        """Whether a memo knows things of a kind."""
        return self.travel.rule(kind) != "never"

    def is_list(self, kind, name):
        """Whether a link or list of a kind is a list."""
        return self.travel.source.field_of(kind, name).mode == "list"

    def met(self, kind):
        """The kinds that are met from an entered kind, in the order of the house."""
        self.check_entered(kind)
        return [other for other in _kinds_ahead(self._going, [kind]) if self.is_known(other)]

    def leaving(self, kind):
        """The edges that begin at an entered kind, in order."""
        self.check_entered(kind)
        return [edge for edge in self._edges if edge[0] == kind]

    def going_from(self, kind):
        """The going steps (field, kind) from an entered kind."""
        return list(self._going[kind])

    def ahead_of(self, kind):
        """An entered kind and the kinds to which it goes on, in the order of the house."""
        return _kinds_ahead(self._going, [kind])

    def ahead_by(self, kind, name):
        """The kinds to which going steps lead from an entered kind, the first one by this field."""
        return _kinds_ahead(self._going, [other for field, other in self._going[kind] if field == name])

    def _edges_from(self, kind):
        """The edges that begin at a kind: by the order of its fields, then of the kinds to which they lead."""
        edges = []
        for name in self.travel.source.slots_of(kind):
            admitted = [other for field, other in copied_steps(self.travel, kind) if field == name]
            following = [other for other in admitted if not self.is_known(other)]
            if self.travel.fate(kind, name) == "new":
                following = following + [other for first in admitted for other in self.met(first)]
            edges.extend([(kind, name, other) for other in self.entered if other in following])
        return edges
