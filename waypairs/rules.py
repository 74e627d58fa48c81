"""Home webs: what is wrong with a web, and the least webs with a thing of a kind."""

from waypairs.errors import UnknownKind
from waypairs.webs import Web

HOME_THINGS = 60


def _unreached(web):
    """The first thing that here does not reach, or None."""
    reached = {thing: True for thing in web.reached()}
    for thing in range(len(web)):
        if thing not in reached:
            return thing
    return None


def _repeated_key(web):
    """The first thing whose kind and key a thing before it has, or None."""
    seen = {}
    for thing in range(len(web)):
        kind = web.kind_of(thing)
        key = web.house.key_of(kind)
        if key is not None:
            named = (kind, web[thing, key])
            if named in seen:
                return thing
            seen[named] = True
    return None


def fault(web):
    """None for a home web, otherwise a pair that names the first thing that is wrong."""
    if web.here != 0 or web.kind_of(web.here) != web.house.root:
        return ("root", web.here)
    if web.old is not None:
        return ("old", web.old)
    unreached = _unreached(web)
    if unreached is not None:
        return ("unreached", unreached)
    repeated = _repeated_key(web)
    if repeated is not None:
        return ("key", repeated)
    return ("many", len(web)) if len(web) > HOME_THINGS else None


def is_home(web):
    """Whether a web is a home web."""
    return fault(web) is None


def _check(house, kind):
    """Raises for any value that is not the name of a kind of the house."""
    if kind not in house:
        raise UnknownKind(kind)


def least_web(house, kind):
    """A web of one thing of this kind without given values."""
    _check(house, kind)
    return Web(house, [(kind, {})])


def reached_kinds(house):
    """The names of the kinds of which some home web has a thing, in the order of the house."""
    far = house.leads_far(house.root)
    return [name for name in house.names if name == house.root or name in far]


def _chain_to(house, kind):
    """The kinds of a shortest chain of steps from the root kind to a kind, or None."""
    chains = [[house.root]]
    met = {house.root: True}
    at = 0
    while at < len(chains):
        last = chains[at][-1]
        if last == kind:
            return chains[at]
        for name in house.leads(last):
            if name not in met:
                met[name] = True
                chains.append([*chains[at], name])
        at += 1
    return None


def _values_to(house, kind, following, number):
    """Values with which a thing of one kind holds one thing of the following kind, the number."""
    for name in house.slots_of(kind):
        field = house.field_of(kind, name)
        if house.admits(field.target, following):
            return {name: [number] if field.mode == "list" else number}
    return {}


def home_web(house, kind):
    """A home web with a thing of this kind and as few things as possible, or None."""
    _check(house, kind)
    chain = _chain_to(house, kind)
    if chain is None:
        return None
    things = []
    for at, (name, following) in enumerate(zip(chain, chain[1:])):
        things.append((name, _values_to(house, name, following, at + 1)))
    return Web(house, [*things, (kind, {})])
