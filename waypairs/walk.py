"""Heaps, and the walks of travels over them."""

from waypairs.errors import BadTravel, BadWeb, Busy, Endless, TooLarge, UnknownField
from waypairs.forms import is_index, is_integer
from waypairs.heapthings import HeapThing, OpenEntry
from waypairs.kindplans import KindPlan
from waypairs.memos import Memo
from waypairs.rules import fault
from waypairs.webs import held_things, step_leads


def _home_names(web):
    """The things of registered kinds of a home web by their kinds and keys."""
    names = {}
    for thing in range(len(web)):
        kind = web.kind_of(thing)
        if web.house.is_registered(kind):
            names[kind, web[thing, web.house.key_of(kind)]] = thing
    return names


class Heap:
    """The things of all levels of a journey, numbered in the order of making."""

    MOST = 4000

    def __init__(self, web):
        wrong = fault(web)
        if wrong is not None:
            raise BadWeb(wrong[1])
        self.house = web.house
        self.root = 0
        self.level = 0
        self.is_busy = False
        self._web = web
        self._things = [HeapThing(kind, web.house, content) for kind, content in web.things()]
        self._named = _home_names(web)

    def __len__(self):
        return len(self._things)

    def __contains__(self, x):
        return is_index(x, len(self._things))

    def __getitem__(self, at):
        n, field = at
        return self.value_of(n, field)

    def __iter__(self):
        raise TypeError("a heap is not iterated over")

    def _thing(self, n):
        """The thing with a number; raises for any value that is not one."""
        if n not in self:
            raise BadWeb(n)
        return self._things[n]

    def kind_of(self, n):
        """The name of the kind of a thing."""
        return self._thing(n).kind

    def value_of(self, n, field):
        """The value of a field of a thing."""
        thing = self._thing(n)
        if not isinstance(field, str) or field not in thing.content:
            raise UnknownField(thing.kind, field)
        value = thing.content[field]
        return list(value) if isinstance(value, list) else value

    def origin_of(self, n):
        """The thing of which a thing is the copy, None for a home thing."""
        return self._thing(n).origin

    def memo_of(self, n):
        """The number of the memo in use when a thing was made, None for a home thing."""
        return self._thing(n).memo

    def travel_of(self, n):
        """The number of the travel that made a thing, 0 for a home thing."""
        return self._thing(n).travel

    def house_of(self, n):
        """The house whose fields a thing has."""
        return self._thing(n).house

    def descent(self, n):
        """The things from a home thing to this one, each the origin of the next."""
        self._thing(n)
        found = [n]
        while self._things[found[-1]].origin is not None:
            found.append(self._things[found[-1]].origin)
        return found[::-1]

    def home_thing(self, kind, key):
        """The home thing of a registered kind with this key; None for any values of which there is none."""
        if not isinstance(kind, str) or not is_integer(key):
            return None
        return self._named.get((kind, key))

    def copied(self):
        """A new heap in the same state."""
        if self.is_busy:
            raise Busy()
        other = Heap(self._web)
        other.house = self.house
        other.root = self.root
        other.level = self.level
        # Only the walk that makes a thing changes it, and none is open: the things themselves can be shared.
        other._things = list(self._things)
        return other

    def content_of(self, n):
        """All values of a thing, in the order of its fields."""
        names = [field.name for field in self.house_of(n).fields_of(self.kind_of(n))]
        return {name: self.value_of(n, name) for name in names}

    def held_by(self, n):
        """The things to which the steps of a thing lead, in the order of its steps."""
        thing = self._thing(n)
        return held_things(thing.content, thing.house.slots_of(thing.kind))

    def follow(self, n, step):
        """The thing to which a step leads from a thing; None for any value that is not a step of it."""
        thing = self._thing(n)
        return step_leads(thing.content, thing.house.slots_of(thing.kind), step)

    def found_by_name(self, n):
        """The home thing of the kind and with the key of a thing of a registered kind."""
        thing = self._thing(n)
        return self.home_thing(thing.kind, thing.content[thing.house.key_of(thing.kind)])

    def begin_walk(self):
        """Keeps the heap busy."""
        self.is_busy = True

    def end_walk(self, root, house):
        """Takes the result of the walk that kept the heap busy."""
        self.root = root
        self.house = house
        self.level += 1
        self.is_busy = False

    def drop_walk(self, count):
        """Leaves the things with numbers below count alone, as before the walk that kept the heap busy."""
        del self._things[count:]
        self.is_busy = False

    def add_copy(self, n, house, plan, memo):
        """Makes the copy of a thing, in a house; its number."""
        thing = self._thing(n)
        content = plan.new_content(thing.content)
        self._things.append(HeapThing(thing.kind, house, content, origin=n, travel=self.level + 1, memo=memo))
        return len(self._things) - 1

    def give(self, n, field, given):
        """Lets a link of a thing hold what is given, or a list hold it at its end."""
        content = self._thing(n).content
        if isinstance(content[field], list):
            content[field].append(given)
        else:
            content[field] = given

    def key_by(self, n, plan):
        """The key by which a memo knows a thing, or None."""
        return plan.key_for(n, self._thing(n).content)

    def ahead_of(self, n, plan):
        """What the walk has ahead when it enters a thing."""
        return plan.ahead(self._thing(n).content)


class Walk:
    """The walk of a travel over a heap, step by step."""

    def __init__(self, heap, travel):
        if heap.is_busy:
            raise Busy()
        if travel.source != heap.house:
            raise BadTravel(None, None)
        self.is_over = False
        self.result = None
        self.ring = None
        self._heap = heap
        self._target = travel.target
        self._plans = {kind: KindPlan(travel, kind) for kind in travel.source.names}
        self._count = len(heap)
        self._memos = 0
        # The entries that are not left, outermost first, and the places of their signs among them.
        self._open = []
        self._places = {}
        self._events = []
        heap.begin_walk()

    def step(self):
        """Makes a step and returns its event, None if the walk is over."""
        if self.is_over:
            return None
        if not self._open:
            event = self._arrived(self._heap.root, self._new_memo())
        elif self._open[-1].is_done():
            event = self._left()
        else:
            event = self._given(self._open[-1])
        self._events.append(event)
        return event

    def finish(self):
        """Makes all steps that are left and returns the new root, None if the walk did not end."""
        while self.step() is not None:
            pass
        return self.result

    def told(self):
        """The events so far."""
        return list(self._events)

    def give_up(self):
        """Ends the walk if it is not over."""
        if not self.is_over:
            self._drop()

    def _drop(self):
        """Ends the walk without a result."""
        self.is_over = True
        self._heap.drop_walk(self._count)

    def _new_memo(self):
        """A new memo, numbered on."""
        self._memos += 1
        return Memo(self._memos - 1)

    def _arrived(self, thing, memo):
        """Arrives at a thing with a memo; the event."""
        plan = self._plans[self._heap.kind_of(thing)]
        key = self._heap.key_by(thing, plan)
        new = memo.known(key)
        if new is not None:
            return ("known", thing, new)
        new = self._entered(thing, memo, plan)
        memo.keep(key, new)
        return ("enter", thing, new, memo.number)

    def _entered(self, thing, memo, plan):
        """Enters a thing that is not known, before it is kept; the new thing."""
        # An empty memo is as good as another empty one.
        sign = (thing, len(memo), memo.number if len(memo) > 0 else None)
        self._check_entry(sign)
        new = self._heap.add_copy(thing, self._target, plan, memo.number)
        self._places[sign] = len(self._open)
        self._open.append(OpenEntry(thing, new, memo, sign, self._heap.ahead_of(thing, plan)))
        return new

    def _check_entry(self, sign):
        """Raises if an entry with this sign is repeated, or if the heap is full."""
        if sign in self._places:
            self.ring = tuple([entry.thing for entry in self._open[self._places[sign]:]])
            self._drop()
            raise Endless(self._heap.level + 1)
        if len(self._heap) >= Heap.MOST:
            self._drop()
            raise TooLarge(Heap.MOST)

    def _given(self, entry):
        """Does with the next thing that an entered one holds what its fate says; the event."""
        held, fate, taker = entry.take_next()
        if fate == "stays":
            event = ("stays", held)
        elif fate == "named":
            event = ("named", held, self._heap.found_by_name(held))
        else:
            event = self._arrived(held, entry.memo if fate == "goes" else self._new_memo())
        if taker is not None:
            self._heap.give(entry.new, taker, held if fate == "stays" else event[2])
        return event

    def _left(self):
        """Leaves the innermost entry; the event."""
        entry = self._open.pop()
        del self._places[entry.sign]
        if not self._open:
            self.is_over = True
            self.result = entry.new
            self._heap.end_walk(entry.new, self._target)
        return ("leave", entry.thing)
