"""Journeys: a home web that is led through travels, and the ideal pair."""

from waypairs.errors import BadRow, BadWeb
from waypairs.forms import is_index
from waypairs.heapwebs import web_of
from waypairs.rows import check_following
from waypairs.rules import fault
from waypairs.walk import Heap, Walk
from waypairs.webs import Web, met_from, renumbered


class Journey:
    """A home web that was led through travels: one heap, and the root of each level in it."""

    def __init__(self, travels, heap, roots):
        self.travels = travels
        self.heap = heap
        self.roots = roots

    def _check_level(self, level):
        """Raises for any value that is not a level."""
        if not is_index(level, len(self.roots)):
            raise BadRow(level)

    def _house_at(self, level):
        """The house of a level."""
        return self.travels[0].source if level == 0 else self.travels[level - 1].target

    def web_at(self, level):
        """The web of a level."""
        numbers = self.numbers_at(level)
        return web_of(self.heap, self._house_at(level), numbers)

    def numbers_at(self, level):
        """The numbers in the heap of the things of the web of a level, in the order of the web."""
        self._check_level(level)
        return met_from(self.heap, self.roots[level])

    def came(self):
        """The web that came back."""
        return self.web_at(len(self.travels))

    def pair(self):
        """The web with here at what came back and old at what stayed at home."""
        return web_of(self.heap, self._house_at(0), self.pair_numbers(), old=self.roots[0])

    def pair_numbers(self):
        """The numbers in the heap of the things of the pair, in the order of the web."""
        if self.travels[-1].target != self.travels[0].source:
            raise BadRow(len(self.travels))
        here = self.numbers_at(len(self.travels))
        met = {n: True for n in here}
        return here + [n for n in self.numbers_at(0) if n not in met]

    def thing_at(self, level, way):
        """The thing of the heap to which a way leads from the root of a level, or None."""
        self._check_level(level)
        n = self.roots[level]
        for step in way:
            n = self.heap.follow(n, step)
            if n is None:
                return None
        return n

    def made_by(self, thing):
        """The travels by which a thing of the heap was made."""
        return tuple([self.heap.travel_of(n) for n in self.heap.descent(thing)[1:]])


def journey(row, web):
    """The journey of a home web through a row, or through travels that follow one another."""
    travels = tuple(row)
    check_following(travels)
    if web.house != travels[0].source:
        raise BadWeb(-1)
    heap = Heap(web)
    roots = [heap.root]
    for travel in travels:
        roots.append(Walk(heap, travel).finish())
    return Journey(travels, heap, tuple(roots))


def ideal(web):
    """The ideal pair of a home web: here a copy of it that has all things but the registered ones for itself."""
    wrong = fault(web)
    if wrong is not None:
        raise BadWeb(wrong[1])
    things = web.things()
    copied = [thing for thing in range(len(web)) if not web.house.is_registered(web.kind_of(thing))]
    numbers = list(range(len(web)))
    for at, thing in enumerate(copied):
        numbers[thing] = len(web) + at
    copies = []
    for thing in copied:
        kind, values = things[thing]
        copies.append((kind, renumbered(values, web.house.slots_of(kind), numbers)))
    return Web(web.house, things + copies, here=numbers[0], old=0).trimmed()
