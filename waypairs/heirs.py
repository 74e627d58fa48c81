"""Heirs: kinds that others write into a row, and those that nobody has written yet."""

from waypairs.errors import BadField, BadKind, UnknownKind
from waypairs.forms import SMALL
from waypairs.kinds import Field, Kind
from waypairs.manysets import Profile
from waypairs.rows import Row
from waypairs.travels import Travel
from waypairs.verdicts import judge

HEIR_FIELDS = 4
# The places of the fates of an unheard row, by the modes of the fields.
UNHEARD_PLACES = {"mark": 0, "link": 1, "list": 2}


def _with_kinds(house, kinds):
    """A house with further kinds as its last ones."""
    return house.with_kinds([house.kind_named(name) for name in house.names] + kinds)


def _travel_with(travel, kinds, source, target):
    """A travel between houses with these heirs as their last kinds; they have the fates and rules of their bases."""
    fates = {}
    rules = {}
    for kind, field, value in travel.table():
        if field is None:
            rules[kind] = value
        else:
            fates[kind, field] = value
    for heir in kinds:
        rules[heir.name] = travel.rule(heir.base)
        for field in heir.fields:
            fates[heir.name, field.name] = travel.unheard(heir.base)[UNHEARD_PLACES[field.mode]]
    unheard = {kind: travel.unheard(kind) for kind in travel.source.names if travel.source.lets_heirs(kind)}
    return Travel(source, fates=fates, rules=rules, unheard=unheard, reader=target if travel.is_saving else None)


def _with_heirs(row, kinds):
    """A row with heirs as the last kinds of all its houses."""
    houses = [_with_kinds(house, kinds) for house in row.houses()]
    travels = []
    for at, travel in enumerate(row.travels):
        travels.append(_travel_with(travel, kinds, houses[at], houses[at + 1]))
    return Row(travels)


def _check_heir(home, kind):
    """Raises for a kind that cannot be an heir beside the kinds of the home."""
    if kind.base not in home or not home.lets_heirs(kind.base):
        raise BadKind(kind.name)
    # A kind with a base is neither frozen nor lets heirs, and one without a key is not registered.
    if kind.key is not None or kind.name in home:
        raise BadKind(kind.name)


def _names_of(fields):
    """The names of fields, also the earlier ones."""
    return [name for field in fields for name in (field.name, *field.was)]


def with_heir(row, kind):
    """The row with an heir as the last kind of all its houses."""
    _check_heir(row.home, kind)
    taken = [name for house in row.houses() for name in _names_of(house.fields_of(kind.base))]
    for field in kind.fields:
        if field.was or field.name in taken:
            raise BadField(field.name)
    return _with_heirs(row, [kind])


def _first_free_names(taken):
    """The first words of three letters that are not taken, as many as an heir has fields."""
    found = []
    for first in SMALL:
        for second in SMALL:
            found.extend([first + second + third for third in SMALL if first + second + third not in taken])
            if len(found) >= HEIR_FIELDS:
                return found[:HEIR_FIELDS]
    return found


def _heirs_of(row, bases):
    """The heirs, not written yet, of these kinds: they can hold anything."""
    taken = [name for house in row.houses() for kind in house.names for name in _names_of(house.fields_of(kind))]
    names = _first_free_names(taken)
    fields = [Field(names[0], "mark"), Field(names[1], "link", target="any"), Field(names[2], "link", target="any"),
              Field(names[3], "list", target="any")]
    free = ["Heir" + letter for letter in SMALL if "Heir" + letter not in row.home]
    return [Kind(name, fields, base=base) for base, name in zip(bases, free)]


def closed(row, *, only=None):
    """The row with an heir of each kind that lets heirs, or of the given ones alone."""
    bases = [kind for kind in row.home.names if row.home.lets_heirs(kind)]
    if only is not None:
        for kind in only:
            if kind not in row.home:
                raise UnknownKind(kind)
            if kind not in bases:
                raise BadKind(kind)
        bases = [kind for kind in bases if kind in only]
    return _with_heirs(row, _heirs_of(row, bases))


def judge_open(row):
    """The verdict on the row with heirs that nobody has written yet."""
    return judge(closed(row))


def heir_harm(row):
    """The least sets of manners that tell by heirs that nobody has written yet, but not by the row itself."""
    profile = Profile.of(judge(row))
    return [manners for manners in Profile.of(judge_open(row)) if manners not in profile]


def safe_kinds(row, manners):
    """The kinds that let heirs so that the row is quiet for a set of manners also with heirs of this kind."""
    kinds = [kind for kind in row.home.names if row.home.lets_heirs(kind)]
    return [kind for kind in kinds if judge(closed(row, only=[kind])).quiet(manners)]
