"""Changes of a row, and the lots of a pool of them after which it is quiet."""

from waypairs.errors import BadChange, TooLarge, WayError
from waypairs.forms import copied_value
from waypairs.kinds import has_own
from waypairs.manysets import Profile
from waypairs.rows import Row
from waypairs.verdicts import judge

POOL = 6


class Change:
    """One entry of a row and its new value: a fate, or a rule if the field is None."""

    def __init__(self, travel, kind, field, value):
        self.travel = copied_value(travel)
        self.kind = copied_value(kind)
        self.field = copied_value(field)
        self.value = copied_value(value)

    def __eq__(self, other):
        return (isinstance(other, Change) and self.travel == other.travel and self.kind == other.kind
                and self.field == other.field and self.value == other.value)

    def has_entry_of(self, other):
        """Whether another change names the same entry."""
        return self.travel == other.travel and self.kind == other.kind and self.field == other.field


def _is_wrong(row, change):
    """Whether a change is wrong for a row."""
    try:
        travel = row[change.travel]
        if change.field is not None and not has_own(travel.source, change.kind, change.field):
            return True
        travel.changed(change.kind, change.field, change.value)
    except WayError:
        return True
    return False


def _check_pool(row, pool):
    """Raises for a pool that is too large, or for its first wrong change."""
    if len(pool) > POOL:
        raise TooLarge(len(pool))
    for at, change in enumerate(pool):
        if _is_wrong(row, change):
            raise BadChange(at)


def _changed(row, changes):
    """The row with right changes of different entries."""
    travels = list(row.travels)
    for change in changes:
        travel = travels[change.travel - 1]
        travels[change.travel - 1] = travel.changed(change.kind, change.field, change.value)
    return Row(travels)


def mended(row, changes):
    """The row with all the changes."""
    for at, change in enumerate(changes):
        if _is_wrong(row, change) or any([change.has_entry_of(earlier) for earlier in changes[:at]]):
            raise BadChange(at)
    return _changed(row, changes)


def _lots(pool):
    """All lots of a pool, by their numbers of places, then as tuples."""
    found = [()]
    at = 0
    while at < len(found):
        lot = found[at]
        at += 1
        for place in range(lot[-1] + 1 if lot else 0, len(pool)):
            if not any([pool[place].has_entry_of(pool[other]) for other in lot]):
                found.append((*lot, place))
    return found


def lots(row, pool):
    """All lots of a pool, the empty one first."""
    _check_pool(row, pool)
    return _lots(pool)


def lot_profiles(row, pool):
    """The lots of a pool, each with the profile of the row after it."""
    _check_pool(row, pool)
    return [(lot, Profile.of(judge(_changed(row, [pool[place] for place in lot])))) for lot in _lots(pool)]


def _is_part(lot, other):
    """Whether a lot has all places of another one, and more."""
    return len(other) < len(lot) and all([place in lot for place in other])


def least_mends(row, pool, manners):
    """The lots after which the row is quiet for a set of manners, but after no proper part of which it is."""
    quiet = [lot for lot, profile in lot_profiles(row, pool) if manners not in profile]
    return [lot for lot in quiet if not any([_is_part(lot, other) for other in quiet])]


def spoilers(row, pool, manners):
    """The pairs (lot, place): the row is quiet after the lot, but not if it has this place, too."""
    profiles = {lot: profile for lot, profile in lot_profiles(row, pool)}
    found = []
    for lot in profiles:
        for place in range(len(pool)):
            larger = tuple(sorted([*lot, place]))
            # Neither a place that the lot has already nor a change of the same entry makes a lot.
            if larger in profiles and manners not in profiles[lot] and manners in profiles[larger]:
                found.append((lot, place))
    return found
