"""Saving webs as texts, and travels that send one."""

from waypairs.errors import BadTravel, BadWeb, TooLarge
from waypairs.heapwebs import web_of
from waypairs.savedlines import MOST_LINES
from waypairs.travels import Travel
from waypairs.walk import Heap, Walk
from waypairs.webs import met_from


def _check_named(web, named):
    """Raises for the first of any values that is not a thing that can be named."""
    for thing in named:
        if thing not in web or thing == web.here or not web.house.is_registered(web.kind_of(thing)):
            raise BadWeb(thing)


class SavedNumbers:
    """The numbers of the things in a text, given as references to them are written."""

    def __init__(self, web, named):
        self._web = web
        self._named = {thing: True for thing in named}
        self._numbers = {web.here: 0}
        # The things that have numbers, in the order of these.
        self._order = [web.here]

    def __len__(self):
        return len(self._order)

    def thing_at(self, number):
        """The thing with a number."""
        return self._order[number]

    def reference(self, thing):
        """The reference to a thing; it gets the next number if it has none."""
        if thing in self._named:
            kind = self._web.kind_of(thing)
            key = self._web[thing, self._web.house.key_of(kind)]
            return f"{kind}@{key}"
        if thing not in self._numbers:
            self._numbers[thing] = len(self._order)
            self._order.append(thing)
        return f"#{self._numbers[thing]}"


def _value_text(mode, value, numbers):
    """The text of a value of a field of this mode."""
    if mode == "mark":
        return str(value)
    if mode == "list":
        return "[" + ",".join([numbers.reference(thing) for thing in value]) + "]"
    return "-" if value is None else numbers.reference(value)


def saved(web, *, named=()):
    """The text of what here reaches; named things are written by their names alone."""
    _check_named(web, named)
    numbers = SavedNumbers(web, named)
    lines = []
    while len(lines) < len(numbers):
        if len(lines) == MOST_LINES:
            raise TooLarge(MOST_LINES)
        thing = numbers.thing_at(len(lines))
        kind = web.kind_of(thing)
        words = [str(len(lines)), kind]
        for field in web.house.fields_of(kind):
            told = _value_text(field.mode, web[thing, field.name], numbers)
            words.append(f"{field.name}={told}")
        lines.append(" ".join(words))
    return "\n".join(lines)


def _copying(travel):
    """The copying travel with the fates and rules of a saving one."""
    rows = travel.table()
    fates = {(kind, field): fate for kind, field, fate in rows if field is not None}
    rules = {kind: rule for kind, field, rule in rows if field is None}
    return Travel(travel.source, fates=fates, rules=rules)


def sent(travel, web):
    """The text of what a saving travel makes of a home web, with all fields of the source."""
    if not travel.is_saving:
        raise BadTravel(None, None)
    if web.house != travel.source:
        raise BadWeb(-1)
    heap = Heap(web)
    root = Walk(heap, _copying(travel)).finish()
    chosen = met_from(heap, root)
    # Nothing stays in a saving travel, so a home thing among them was found by its name.
    named = [at for at, n in enumerate(chosen) if heap.travel_of(n) == 0]
    return saved(web_of(heap, travel.source, chosen), named=named)
