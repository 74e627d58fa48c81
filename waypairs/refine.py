"""Sights and ranks, and the classes of things that looking cannot tell apart."""

from waypairs.bounds import check_sizes
from waypairs.errors import BadWeb
from waypairs.sights import told_sight


def sight(web, thing):
    """What a see line tells of a thing."""
    kind = web.kind_of(thing)
    fields = web.house.fields_of(kind)
    return told_sight(kind, fields, [web[thing, field.name] for field in fields])


def _numbered(signs):
    """For each sign the number of the first place at which it stands among the different ones."""
    numbers = {}
    for sign in signs:
        if sign not in numbers:
            numbers[sign] = len(numbers)
    return [numbers[sign] for sign in signs]


def _rounds(webs):
    """For each number of steps, as far as they tell more, the class of each thing of the webs, one behind another.

    Two things are in one class of round k if no way of at most k steps ends at unequal sights.
    """
    held = []
    signs = []
    for web in webs:
        before = len(held)
        for thing in range(len(web)):
            kind, marks, slots = sight(web, thing)
            signs.append((kind, tuple(marks), tuple(slots)))
            held.append([before + number for number in web.held_by(thing)])
    rounds = [_numbered(signs)]
    while True:
        last = rounds[-1]
        signs = [(last[at], tuple([last[number] for number in held[at]])) for at in range(len(held))]
        new = _numbered(signs)
        if max(new) == max(last):
            return rounds
        rounds.append(new)


class Ranks:
    """The ranks of all pairs of things of two webs."""

    def __init__(self, first, second):
        check_sizes([first, second])
        self.first = first
        self.second = second
        self._ranks = {}
        pairs = [(x, y) for x in range(len(first)) for y in range(len(second))]
        for rank, numbers in enumerate(_rounds([first, second])):
            equal = []
            # The list that is walked is a copy: the one that is filled takes its name afterwards.
            for x, y in list(pairs):
                if numbers[x] == numbers[len(first) + y]:
                    equal.append((x, y))
                else:
                    self._ranks[x, y] = rank
            pairs = equal
        self._matched = pairs

    def __getitem__(self, at):
        x, y = at
        if x not in self.first:
            raise BadWeb(x)
        if y not in self.second:
            raise BadWeb(y)
        return self._ranks.get((x, y))

    def __contains__(self, x):
        if not isinstance(x, tuple) or len(x) != 2 or x[0] not in self.first or x[1] not in self.second:
            return False
        return x not in self._ranks

    def __len__(self):
        return len(self._matched)

    def __iter__(self):
        return iter(self._matched)

    def most(self):
        """The greatest rank, or None if no pair has one."""
        return max(self._ranks.values(), default=None)

    def of_rank(self, rank):
        """All pairs with this rank, ascending."""
        return sorted([pair for pair in self._ranks if self._ranks[pair] == rank])


def _classes(web):
    """For each thing of a web the number of its class, in the order of the first things of the classes."""
    check_sizes([web])
    return _rounds([web])[-1]


def _firsts(numbers):
    """The first thing of each class."""
    firsts = []
    for thing, number in enumerate(numbers):
        if number == len(firsts):
            firsts.append(thing)
    return firsts


def classes(web):
    """The things of a web in lists of those that looking cannot tell apart."""
    numbers = _classes(web)
    return [[thing for thing, other in enumerate(numbers) if other == numbers[first]] for first in _firsts(numbers)]


def folded(web):
    """The web with one thing for each of its classes."""
    numbers = _classes(web)
    return web.numbered(_firsts(numbers), numbers)
