"""Webs of things of a heap."""

from waypairs.webs import Web, renumbered


def web_of(heap, house, chosen, *, old=None):
    """The web, in a house, of chosen things of a heap, in this order; here is the first one."""
    numbers = {n: at for at, n in enumerate(chosen)}
    things = []
    for n in chosen:
        kind = heap.kind_of(n)
        things.append((kind, renumbered(heap.content_of(n), house.slots_of(kind), numbers)))
    return Web(house, things, here=0, old=None if old is None else numbers[old])
