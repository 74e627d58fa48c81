"""What ways and pairs of ways find in the heaps of journeys, with which words and standings are compared."""

from tests.drawn import drawn_home, drawn_house, drawn_row
from waypairs.errors import Endless, TooLarge
from waypairs.fieldtables import slots
from waypairs.journeys import journey
from waypairs.oneway import Lens


def drawn_journeys(chance, count, *, leaf_marks=True, most=7):
    """So many journeys of drawn home webs without a lost mark, each with its lens.

    With leaf_marks only kinds that are leaves are known by marks.
    """
    found = []
    while len(found) < count:
        house = drawn_house(chance, with_kinds=chance.choice([(), ("Tag",), ("Froz", "Leaf")]))
        row = drawn_row(chance, house, chance.randrange(1, 5), saving=0.3, fates=("goes", "new", "stays", "named"))
        lens = Lens(row)
        if any(house.field_of(word[0], name).mode == "mark" for word in lens.words() for name in lens.broken(word)):
            continue
        if leaf_marks and any("marks" in lens.rules(kind) and not house.is_leaf(kind) for kind in house.names):
            continue
        try:
            found.append((lens, journey(row, drawn_home(chance, house, most, different=True))))
        except (Endless, TooLarge):
            continue
    return found


class SeenWay:
    """A way of a home web with its word, and the things of all levels to which it leads; no field of it is broken."""

    def __init__(self, lens, made, way, word, things):
        self.lens = lens
        self.made = made
        self.way = way
        self.word = word
        # The things at home on the way, from the root on.
        self.home = things
        self.levels = [made.thing_at(level, self.at_level(level)) for level in range(lens.size + 1)]

    def at_level(self, level):
        """The way by the names that its fields have at a level."""
        web = self.made.heap
        return [(slots(self.lens.row, web.kind_of(thing), field)[level], place)
                for thing, (field, place) in zip(self.home, self.way)]

    def as_found(self):
        """The things of all levels, those before one that is found by name as if they had been that home thing."""
        things = list(self.levels)
        for level in range(len(things)):
            if self.made.heap.travel_of(things[level]) == 0:
                things[:level] = [things[level]] * level
        return things

    def fates(self, at):
        """The fates of the field of the step at a place."""
        return self.lens.fates(self.made.heap.kind_of(self.home[at]), self.way[at][0])


def seen_ways(lens, made, most):
    """The first ways of the home web on which nothing is broken."""
    found = []
    heap = made.heap
    for way in made.web_at(0).ways(most):
        things = [made.thing_at(0, way[:count]) for count in range(len(way) + 1)]
        word = lens.start[1:]
        for at, (field, _) in enumerate(way):
            if word is not None:
                word = lens.step(word, field, heap.kind_of(things[at + 1]))
        if word is not None:
            found.append(SeenWay(lens, made, way, word, things))
    return found


def travels_seen(way):
    """The travels at which the things of a way were made, but for those ahead of one that finds by name."""
    found = []
    for level, thing in enumerate(way.levels):
        number = way.made.heap.travel_of(thing)
        if number == 0:
            found = []
        elif number == level:
            found.append(level)
    return tuple(found)


def parted_at(first, second):
    """How many steps two ways take together before they part."""
    count = 0
    while count < min(len(first.way), len(second.way)) and first.way[count] == second.way[count]:
        count += 1
    return count


def comes_by_twice(first, second):
    """Whether two ways come by one thing other than together, or at both their ends."""
    count = parted_at(first, second)
    one, other = first.home[count + 1:], second.home[count + 1:]
    # Where one way waits, the thing where it waits is its end.
    ends = {(one or first.home[count:count + 1])[-1], (other or first.home[count:count + 1])[-1]}
    before = first.home[:count + 1]
    found = before + one + other
    if len(ends) == 1:
        found.remove(ends.pop())
    return len(set(found)) < len(found)
