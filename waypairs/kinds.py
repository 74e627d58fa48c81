"""Fields, kinds and houses."""

from waypairs.errors import BadField, BadHouse, BadKind, UnknownField, UnknownKind
from waypairs.forms import are_different, is_default, is_field_name, is_integer, is_kind_name

SLOT_MODES = ("link", "list")
ANY = "any"
OLD_NAMES = 2


def _fits_mode(mode, target, default):
    """Whether any values are a mode, and a target and a default for it."""
    if mode == "mark":
        return target is None and is_default(default)
    if mode not in SLOT_MODES or not is_integer(default) or default != 0:
        return False
    return target == ANY or is_kind_name(target)


def _is_was(name, was):
    """Whether any value lists former names of a field."""
    if not isinstance(was, (list, tuple)) or len(was) > OLD_NAMES:
        return False
    if not all([is_field_name(former) for former in was]):
        return False
    return name not in was and are_different(was)


class Field:
    """A field of a kind: a mark, a link or a list."""

    def __init__(self, name, mode, *, target=None, default=0, was=()):
        if not is_field_name(name) or not _fits_mode(mode, target, default) or not _is_was(name, was):
            raise BadField(name)
        self.name = name
        self.mode = mode
        self.target = target
        self.default = default
        self.was = tuple(was)

    def __eq__(self, other):
        return (isinstance(other, Field) and self.name == other.name and self.mode == other.mode
                and self.target == other.target and self.default == other.default and self.was == other.was)


def _are_fields(fields):
    """Whether any value is a list or tuple of own fields for one kind."""
    if not isinstance(fields, (list, tuple)) or len(fields) > House.FIELDS:
        return False
    if not all([isinstance(field, Field) for field in fields]):
        return False
    return are_different([field.name for field in fields])


def _can_be(base, frozen, heirs, key, registered):
    """Whether a kind can have these parts together."""
    if not all([isinstance(part, bool) for part in (frozen, heirs, registered)]):
        return False
    if base is not None and (frozen or heirs):
        return False
    if heirs and (frozen or key is not None):
        return False
    return key is not None or not registered


class Kind:
    """A kind of things, with the fields that are its own."""

    def __init__(self, name, fields, *, base=None, frozen=False, heirs=False, key=None, registered=False):
        named = is_kind_name(name) and (key is None or is_field_name(key))
        based = base is None or (is_kind_name(base) and base != name)
        if not named or not based or not _are_fields(fields) or not _can_be(base, frozen, heirs, key, registered):
            raise BadKind(name)
        self.name = name
        self.fields = tuple(fields)
        self.base = base
        self.frozen = frozen
        self.heirs = heirs
        self.key = key
        self.registered = registered

    def __eq__(self, other):
        return (isinstance(other, Kind) and self.name == other.name and self.fields == other.fields
                and self.base == other.base and self.frozen == other.frozen and self.heirs == other.heirs
                and self.key == other.key and self.registered == other.registered)


def _check_kinds(kinds):
    """Raises unless any value is a list or tuple of as many kinds as a house has."""
    if not isinstance(kinds, (list, tuple)) or not 1 <= len(kinds) <= House.KINDS:
        raise BadHouse(None)
    for kind in kinds:
        if not isinstance(kind, Kind):
            raise BadHouse(None)


def _holds_alone(kind, earlier, names):
    """Whether the first four rules hold for a kind behind the earlier kinds, a dict by names."""
    if kind.name in earlier:
        return False
    if kind.base is not None and (kind.base not in earlier or not earlier[kind.base].heirs):
        return False
    fields = _all_fields(kind, earlier)
    if len(fields) > House.FIELDS or not are_different([field.name for field in fields]):
        return False
    slots = [field for field in fields if field.mode != "mark"]
    if not all([field.target == ANY or field.target in names for field in slots]):
        return False
    return kind.key is None or (not slots and kind.key in [field.name for field in fields])


def _all_fields(kind, by_name):
    """The fields of a kind, those of its base first."""
    if kind.base is None:
        return kind.fields
    return by_name[kind.base].fields + kind.fields


def has_own(house, kind, field):
    """Whether any values are a kind of a house and an own field of this kind."""
    return kind in house and field in [own.name for own in house.kind_named(kind).fields]


def _far_from(name, leads):
    """The names to which one or more steps lead from a name; leads has those of one step."""
    found = list(leads[name])
    at = 0
    while at < len(found):
        for further in leads[found[at]]:
            if further not in found:
                found.append(further)
        at += 1
    return [other for other in leads if other in found]


class House:
    """Kinds in an order, with the root kind."""

    KINDS = 12
    FIELDS = 10

    def __init__(self, root, kinds):
        _check_kinds(kinds)
        names = tuple([kind.name for kind in kinds])
        by_name = {}
        for kind in kinds:
            if not _holds_alone(kind, by_name, names):
                raise BadHouse(kind.name)
            by_name[kind.name] = kind
        self.root = root
        self.names = names
        self._kinds = tuple(kinds)
        self._by_name = by_name
        self._fields = {name: _all_fields(by_name[name], by_name) for name in names}
        self._leads = {name: self._leads_from(name) for name in names}
        self._far = {name: _far_from(name, self._leads) for name in names}
        self._check_frozen()
        if root not in names or by_name[root].key is not None:
            raise BadHouse(root)

    def __eq__(self, other):
        return isinstance(other, House) and self.root == other.root and self._kinds == other._kinds

    def __len__(self):
        return len(self.names)

    def __contains__(self, x):
        return isinstance(x, str) and x in self._by_name

    def _leads_from(self, name):
        """The names to which a kind leads in one step, in the order of the house."""
        targets = [field.target for field in self._fields[name] if field.mode != "mark"]
        return [other for other in self.names if any([self._lets(target, other) for target in targets])]

    def _lets(self, target, name):
        """Whether a right target admits a kind of the house."""
        return target == ANY or target == name or target == self._by_name[name].base

    def _check_frozen(self):
        """Raises for the first frozen kind that leads to itself or to a kind that lets heirs."""
        for name in self.names:
            far = self._far[name]
            if self._by_name[name].frozen and (name in far or any([self._by_name[other].heirs for other in far])):
                raise BadHouse(name)

    def _check(self, kind):
        """Raises for any value that is not the name of a kind."""
        if kind not in self:
            raise UnknownKind(kind)

    def kind_named(self, kind):
        """The kind of this name."""
        self._check(kind)
        return self._by_name[kind]

    def fields_of(self, kind):
        """All fields of a kind, in order."""
        self._check(kind)
        return list(self._fields[kind])

    def field_of(self, kind, name):
        """The field of a kind with this name."""
        self._check(kind)
        for field in self._fields[kind]:
            if field.name == name:
                return field
        raise UnknownField(kind, name)

    def marks_of(self, kind):
        """The names of the marks of a kind, in order."""
        return [field.name for field in self.fields_of(kind) if field.mode == "mark"]

    def slots_of(self, kind):
        """The names of the links and lists of a kind, in order."""
        return [field.name for field in self.fields_of(kind) if field.mode != "mark"]

    def lets_heirs(self, kind):
        """Whether a kind lets others write heirs of it."""
        return self.kind_named(kind).heirs

    def is_frozen(self, kind):
        """Whether the things of a kind never change."""
        return self.kind_named(kind).frozen

    def is_registered(self, kind):
        """Whether a kind is registered."""
        return self.kind_named(kind).registered

    def is_leaf(self, kind):
        """Whether a kind has no links and no lists."""
        return not self.slots_of(kind)

    def is_movable(self, kind):
        """Whether some field of a thing of a kind can be changed."""
        if self.is_frozen(kind):
            return False
        return any([field.name != self.key_of(kind) for field in self._fields[kind]])

    def key_of(self, kind):
        """The name of the key of a kind, or None."""
        return self.kind_named(kind).key

    def heirs_of(self, kind):
        """The names of the heirs of a kind, in the order of the house."""
        self._check(kind)
        return [name for name in self.names if self._by_name[name].base == kind]

    def admitted(self, target):
        """The names of the kinds that a target admits, in the order of the house."""
        if target != ANY and target not in self:
            raise UnknownKind(target)
        return [name for name in self.names if self._lets(target, name)]

    def admits(self, target, kind):
        """Whether a target admits a kind."""
        admitted = self.admitted(target)
        self._check(kind)
        return kind in admitted

    def leads(self, kind):
        """The names of the kinds to which a kind leads in one step."""
        self._check(kind)
        return list(self._leads[kind])

    def leads_far(self, kind):
        """The names of the kinds to which a kind leads in one or more steps."""
        self._check(kind)
        return list(self._far[kind])

    def with_kinds(self, kinds, *, root=None):
        """A house with these kinds, and with this root where one is given."""
        return House(self.root if root is None else root, kinds)
