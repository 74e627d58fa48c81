"""Matchings of two webs, and whether they are alike."""

from waypairs.bounds import check_sizes, check_webs
from waypairs.errors import BadWeb
from waypairs.pairwalk import PairWalk


def walked_pairs(first, second, manners):
    """The walked pairs, in the order of first meeting."""
    check_webs([first, second], manners)
    return PairWalk(first, second, manners).pairs


def _reached_kinds(web, manners):
    """The kinds of the things that the roots reach."""
    kinds = {web.kind_of(thing): True for thing in web.reached(both="old" in manners)}
    return list(kinds)


def _is_movable(web, thing, reached):
    """Whether a thing is movable; reached are the kinds of the things that the roots reach."""
    house = web.house
    kind = web.kind_of(thing)
    if house.is_frozen(kind):
        return False
    if web.held_by(thing) or any([name != house.key_of(kind) for name in house.marks_of(kind)]):
        return True
    for name in house.slots_of(kind):
        field = house.field_of(kind, name)
        if field.mode == "link" and any([house.admits(field.target, other) for other in reached]):
            return True
    return False


def is_movable(web, thing, manners):
    """Whether a client can change a thing."""
    check_webs([web], manners)
    return _is_movable(web, thing, _reached_kinds(web, manners))


def single_things(web, manners):
    """For each thing of a web whether no two pairs of a matching may have it."""
    if "ask" in manners:
        return [True for _ in range(len(web))]
    if "set" not in manners:
        return [False for _ in range(len(web))]
    reached = _reached_kinds(web, manners)
    return [_is_movable(web, thing, reached) for thing in range(len(web))]


def _stands_twice(things, single):
    """Whether a thing that may stand once only stands twice in a list."""
    seen = {}
    for thing in things:
        if thing in seen and single[thing]:
            return True
        seen[thing] = True
    return False


def matching(first, second, manners):
    """The walked pairs, ascending, if the webs are alike for the manners, otherwise None."""
    check_webs([first, second], manners)
    walk = PairWalk(first, second, manners)
    if walk.unequal is not None:
        return None
    if _stands_twice([x for x, _ in walk.pairs], single_things(first, manners)):
        return None
    if _stands_twice([y for _, y in walk.pairs], single_things(second, manners)):
        return None
    return sorted(walk.pairs)


def alike(first, second, manners):
    """Whether no client with the manners tells the webs apart."""
    return matching(first, second, manners) is not None


def twinned(web, thing, step):
    """The web in which a step of a thing leads to a twin of the thing to which it led."""
    check_sizes([web])
    held = web.follow(thing, step)
    if held is None:
        raise BadWeb(thing)
    things = web.things()
    twin = (web.kind_of(held), {name: web[held, name] for name in things[held][1]})
    field, place = step
    values = things[thing][1]
    if place is None:
        values[field] = len(web)
    else:
        values[field][place] = len(web)
    things.append(twin)
    return web.with_things(things)
