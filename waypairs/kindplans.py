"""What a travel does with the things of a kind."""

from waypairs.editions import source_field
from waypairs.memos import memo_key
from waypairs.webs import full_values


def _takers(travel, kind):
    """The fields of the target that take a field of the source, by the names of these."""
    taken = {}
    for field in travel.target.fields_of(kind):
        source = source_field(travel.source, travel.target, kind, field.name)
        if source is not None:
            taken[source] = field.name
    return taken


class KindPlan:
    """The rule, the marks and the fates of a kind in a travel, with the fields that take what its fields give."""

    def __init__(self, travel, kind):
        takers = _takers(travel, kind)
        marks = travel.source.marks_of(kind)
        slots = travel.source.slots_of(kind)
        self._rule = travel.rule(kind)
        self._kind = kind
        self._target = travel.target
        self._marks = marks
        self._going = {name: takers[name] for name in marks if name in takers and travel.fate(kind, name) == "goes"}
        self._slots = [(name, travel.fate(kind, name), takers.get(name)) for name in slots
                        if travel.fate(kind, name) != "lost"]

    def key_for(self, n, content):
        """The key by which a memo knows a thing, or None."""
        return memo_key(self._rule, n, self._kind, [content[name] for name in self._marks])

    def new_content(self, content):
        """What the copy of a thing holds when the thing is entered."""
        given = {self._going[name]: content[name] for name in self._going}
        return full_values(self._target, self._kind, given)

    def ahead(self, content):
        """The things that the links and lists of a thing hold and that are not lost, with fates and taking fields."""
        found = []
        for name, fate, taker in self._slots:
            value = content[name]
            if isinstance(value, list):
                found.extend([(held, fate, taker) for held in value])
            elif value is not None:
                found.append((value, fate, taker))
        return found
