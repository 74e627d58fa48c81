"""The judges of matchings and partings."""

from waypairs.bounds import check_webs
from waypairs.clientrun import first_difference
from waypairs.clients import check, needed
from waypairs.errors import BadClient
from waypairs.matching import single_things
from waypairs.pairwalk import root_pairs
from waypairs.refine import sight


def _is_pair(first, second, value):
    """Whether any value is a pair of a thing of the first web and a thing of the second one."""
    return isinstance(value, tuple) and len(value) == 2 and value[0] in first and value[1] in second


def _step_fault(first, second, pairs):
    """The first pair of unequal sights, or step from a pair that leads to none of the pairs, or None."""
    given = {pair: True for pair in pairs}
    for at, (x, y) in enumerate(pairs):
        if sight(first, x) != sight(second, y):
            return ("see", at)
        for step, left, right in zip(first.steps(x), first.held_by(x), second.held_by(y)):
            if (left, right) not in given:
                return ("step", at, step)
    return None


def _twice_fault(first, second, manners, pairs):
    """The first pair that has a thing in common with an unequal earlier one though it may not, or None."""
    single = single_things(first, manners)
    other_single = single_things(second, manners)
    partners = {}
    other_partners = {}
    for at, (x, y) in enumerate(pairs):
        # A pair without a fault has the partners of all earlier pairs with its things.
        if single[x] and partners.setdefault(x, y) != y:
            return ("twice", at)
        if other_single[y] and other_partners.setdefault(y, x) != x:
            return ("twice", at)
    return None


def matching_fault(first, second, manners, pairs):
    """None if a list of any values has the pairs of a matching, otherwise what is wrong first."""
    check_webs([first, second], manners)
    for at, value in enumerate(pairs):
        if not _is_pair(first, second, value):
            return ("pair", at)
    for name, pair in root_pairs(first, second, manners).items():
        if pair not in pairs:
            return ("root", name)
    found = _step_fault(first, second, pairs)
    if found is not None:
        return found
    return _twice_fault(first, second, manners, pairs)


def parting_fault(first, second, manners, client):
    """None if any value is a client that tells the webs apart at its last line, otherwise what is wrong first."""
    check_webs([first, second], manners)
    try:
        check(client)
    except BadClient:
        return "client"
    if not needed(client).within(manners):
        return "manners"
    line = first_difference(client, first, second)
    if line is None:
        return "alike"
    return None if line == len(client) - 1 else "longer"
