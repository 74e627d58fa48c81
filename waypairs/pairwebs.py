"""Pairs of home webs of which a comparison can give the wrong result."""

from waypairs.grownwebs import GrownWeb


def _make_unlike(grown, thing, field):
    """Makes a thing unlike others in this field."""
    if field.mode == "mark":
        grown.give_marks(thing, {field.name: field.default + 1})
    else:
        grown.fill(thing, field.name)


def out_pair(house, lead, field):
    """Two webs of a chain from the root, which are unlike in a field of the last thing."""
    plain = GrownWeb(house)
    plain.grow(0, lead)
    other = GrownWeb(house)
    _make_unlike(other, other.grow(0, lead), field)
    return (plain.finished(), other.finished())


def _forked(house, fork):
    """A web where both chains of a fork lead to one thing, with this thing."""
    lead, one, other = fork
    grown = GrownWeb(house)
    begin = grown.grow(0, lead)
    end = grown.grow(begin, one)
    grown.grow_back(begin, other, end)
    return grown, end


def _split(house, fork):
    """A web where the chains of a fork lead to two things, with these things."""
    lead, one, other = fork
    grown = GrownWeb(house)
    begin = grown.grow(0, lead)
    first = grown.grow(begin, one)
    return grown, first, grown.grow(begin, other)


def fork_pair(house, fork, *, unlike=None, filled=None):
    """A web where the chains of a fork lead to one thing, and one where they lead to two.

    The second of the two things is unlike the first one in a field, if one is given. If a filled field is given, the
    things hold one further thing by it.
    """
    shared, end = _forked(house, fork)
    split, first, second = _split(house, fork)
    if unlike is not None:
        _make_unlike(split, second, unlike)
    if filled is not None:
        shared.fill(end, filled)
        split.let_hold(second, filled, split.fill(first, filled))
    return (shared.finished(), split.finished())


def _closed(house, lead, ring):
    """A web with a ring behind a lead."""
    grown = GrownWeb(house)
    begin = grown.grow(0, lead)
    grown.grow_back(begin, ring, begin)
    return grown.finished()


def ring_pair(house, lead, ring, *, goes_on):
    """A web with a ring, and one where the way round it ends at another thing, which goes on like the first or not."""
    grown = GrownWeb(house)
    begin = grown.grow(0, lead)
    second = grown.grow(begin, ring[:1])
    end = grown.grow(second, ring[1:])
    if goes_on:
        grown.let_hold(end, ring[0][0], second)
    return (_closed(house, lead, ring), grown.finished())


def endless_pair(house, lead, ring):
    """Two webs with a ring."""
    return (_closed(house, lead, ring), _closed(house, lead, ring))
