"""Travels: how a web is copied, or saved and read again."""

from waypairs.editions import reader_fault
from waypairs.errors import BadReader, BadTravel, UnknownField, UnknownKind
from waypairs.kinds import has_own

MARK_FATES = ("goes", "lost")
SLOT_FATES = ("goes", "new", "stays", "lost", "named")
UNHEARD_FATES = ("goes", "new", "stays", "lost")
RULES = ("itself", "marks", "never")
HEARD_FATES = ("goes", "goes", "goes")


def _check_keys(source, fates, rules, unheard):
    """Raises for the least key that is wrong, of each dict in turn."""
    for kind, field in sorted(fates):
        if not has_own(source, kind, field):
            raise BadTravel(kind, field)
    for kind in sorted(rules):
        if kind not in source:
            raise BadTravel(kind, None)
    for kind in sorted(unheard):
        if kind not in source or not source.lets_heirs(kind):
            raise BadTravel(kind, None)


def _is_registered(house, target):
    """Whether a target is a registered kind."""
    return target in house and house.is_registered(target)


def _is_fate(house, kind, field, fate, saving):
    """Whether any value can be the fate of an own field of a kind."""
    if fate not in (MARK_FATES if field.mode == "mark" else SLOT_FATES):
        return False
    if fate == "lost":
        return field.name not in [house.key_of(name) for name in [kind, *house.heirs_of(kind)]]
    if fate == "named":
        return _is_registered(house, field.target)
    return fate != "stays" or not saving


def _is_rule(house, kind, rule):
    """Whether any value can be the rule of a kind."""
    return rule in RULES and (rule != "marks" or house.marks_of(kind) != [])


def _is_unheard(row, saving):
    """Whether any value can be the unheard row of a kind."""
    if not isinstance(row, tuple) or len(row) != 3 or row[0] not in MARK_FATES:
        return False
    return all([fate in UNHEARD_FATES and (fate != "stays" or not saving) for fate in row[1:]])


class Travel:
    """A travel of the webs of a house."""

    def __init__(self, source, *, fates=None, rules=None, unheard=None, reader=None):
        fates = {} if fates is None else fates
        rules = {} if rules is None else rules
        unheard = {} if unheard is None else unheard
        _check_keys(source, fates, rules, unheard)
        self.source = source
        self.target = source if reader is None else reader
        self.is_saving = reader is not None
        self._fates = {}
        self._rules = {}
        self._unheard = {}
        for kind in source.names:
            self._take_kind(kind, fates, rules, unheard)
            self._check_kind(kind)
        if reader is not None:
            wrong = reader_fault(source, reader)
            if wrong is not None:
                raise BadReader(wrong)

    def __eq__(self, other):
        return (isinstance(other, Travel) and self.is_saving == other.is_saving and self.source == other.source
                and self.target == other.target and self._fates == other._fates and self._rules == other._rules
                and self._unheard == other._unheard)

    def _take_kind(self, kind, fates, rules, unheard):
        """Takes what is given for a kind, and what is due without it."""
        base = self.source.kind_named(kind).base
        for field in self.source.kind_named(kind).fields:
            self._fates[kind, field.name] = fates.get((kind, field.name), "goes")
        self._rules[kind] = rules.get(kind, "itself" if base is None else self._rules[base])
        if self.source.lets_heirs(kind):
            self._unheard[kind] = unheard.get(kind, HEARD_FATES)

    def _check_kind(self, kind):
        """Raises for the first entry of a kind that is wrong."""
        for field in self.source.kind_named(kind).fields:
            if not _is_fate(self.source, kind, field, self._fates[kind, field.name], self.is_saving):
                raise BadTravel(kind, field.name)
        if not _is_rule(self.source, kind, self._rules[kind]):
            raise BadTravel(kind, None)
        if self.source.lets_heirs(kind) and not _is_unheard(self._unheard[kind], self.is_saving):
            raise BadTravel(kind, None)

    def _check(self, kind):
        """Raises for any value that is not the name of a kind."""
        if kind not in self.source:
            raise UnknownKind(kind)

    def _owner(self, kind, field):
        """The kind that has a field of a kind as its own; raises for any values that are no kind and no field."""
        for name in (kind, self.source.kind_named(kind).base):
            if has_own(self.source, name, field):
                return name
        raise UnknownField(kind, field)

    def fate(self, kind, field):
        """The fate of a field, in any kind that has it."""
        return self._fates[self._owner(kind, field), field]

    def rule(self, kind):
        """The rule of a kind."""
        self._check(kind)
        return self._rules[kind]

    def unheard(self, kind):
        """The unheard row of a kind, None if it lets no heirs."""
        self._check(kind)
        return self._unheard.get(kind)

    def table(self):
        """The rules of all kinds, and behind each of them the fates of its own fields."""
        rows = []
        for kind in self.source.names:
            rows.append((kind, None, self._rules[kind]))
            for field in self.source.kind_named(kind).fields:
                rows.append((kind, field.name, self._fates[kind, field.name]))
        return rows

    def changed(self, kind, field, value):
        """The travel with another fate of a field, or another rule of a kind if field is None."""
        self._check(kind)
        fates = {spot: self._fates[spot] for spot in self._fates}
        # All rules are given, so that heirs keep theirs.
        rules = dict(self._rules)
        if field is None:
            rules[kind] = value
        else:
            fates[self._owner(kind, field), field] = value
        reader = self.target if self.is_saving else None
        return Travel(self.source, fates=fates, rules=rules, unheard=self._unheard, reader=reader)
