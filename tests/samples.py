"""Houses, webs and values that the tests share."""

from waypairs.kinds import Field, House, Kind
from waypairs.manners import Manners
from waypairs.webs import Web


def mark(name, **more):
    return Field(name, "mark", **more)


def link(name, target="any", **more):
    return Field(name, "link", target=target, **more)


def many(name, target="any", **more):
    return Field(name, "list", target=target, **more)


def node_house():
    """One kind that can have every shape of web."""
    return House("Node", [Kind("Node", [mark("age"), link("next", "Node"), many("all", "Node")])])


def town_house():
    """A house with a base, heirs, a frozen, a keyed and a registered kind."""
    return House("Town", [
        Kind("Town", [mark("size", default=3), link("mayor", "Person"), many("parts", "any")]),
        Kind("Person", [mark("age"), link("friend", "Person")], heirs=True),
        Kind("Clerk", [mark("desk", default=-7), many("papers", "Paper")], base="Person"),
        Kind("Judge", [link("court", "Town")], base="Person"),
        Kind("Paper", [mark("page"), link("stamp", "Stamp")], frozen=True),
        Kind("Stamp", [mark("worth")], frozen=True),
        Kind("Tag", [mark("code"), mark("tone")], key="code", registered=True),
        Kind("Note", [mark("line")], key="line"),
        Kind("Dot", []),
        Kind("Lost", [mark("way")]),
    ])


def town_web():
    """A home web of the town house with a thing of most kinds."""
    return Web(town_house(), [
        ("Town", {"mayor": 1, "parts": [2, 5, 6, 2]}),
        ("Person", {"age": 40, "friend": 2}),
        ("Clerk", {"age": 30, "friend": 1, "desk": 8, "papers": [3, 4]}),
        ("Paper", {"page": 1, "stamp": 7}),
        ("Paper", {"page": 2}),
        ("Tag", {"code": 5, "tone": -5}),
        ("Judge", {"age": 60, "court": 0}),
        ("Stamp", {"worth": 9}),
    ])


def chain(house, kind, field, count, *, ring=False, **values):
    """A web in which each thing holds the next one, the last one the first in a ring."""
    things = []
    for at in range(count):
        given = dict(values)
        if at + 1 < count or ring:
            given[field] = (at + 1) % count
        things.append((kind, given))
    return Web(house, things)


def any_values():
    """Values of many kinds, none of which is a name, a number or a thing of the samples."""
    return [None, True, False, -1, 10 ** 40 - 1, "", " ", "x y", "Zzz", "zzzzzzzzz", "a\nb", [], (), {}, [0], (0,),
            [["a"]], ("a", None), {"a": 1}, {("a", "b"): [None]}, nested(8), node_house(), Manners("ask"),
            mark("age"), Web(node_house(), [("Node", {})]), ValueError, "a" * 5000]


def nested(depth):
    value = []
    for _ in range(depth - 1):
        value = [value]
    return value


def raised(error, call, *args, **more):
    """The error of just this class that a call raises; fails if it raises none."""
    try:
        call(*args, **more)
    except error as e:
        if e.__class__ is not error:
            raise AssertionError(f"{e.__class__} in the place of {error}") from e
        return e
    raise AssertionError(f"no {error}")
