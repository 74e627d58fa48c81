"""Comparisons of two webs by a comparer, event by event."""

from waypairs.errors import BadHouse, TooLarge


class Notes:
    """The pairs that a comparison has noted."""

    def __init__(self):
        self._pairs = {}
        # How many pairs have a thing as their left one, or as their right one.
        self._lefts = {}
        self._rights = {}

    def note(self, pair):
        """Keeps a pair."""
        self._pairs[pair] = True
        self._add_counts(pair, 1)

    def forget(self, pair):
        """Takes a pair away."""
        del self._pairs[pair]
        self._add_counts(pair, -1)

    def _add_counts(self, pair, more):
        """Changes the counts of the two things of a pair."""
        left, right = pair
        self._lefts[left] = self._lefts.get(left, 0) + more
        self._rights[right] = self._rights.get(right, 0) + more

    def asked(self, by, pair):
        """What a guard learns of a pair: True if it is known, False if it is unlike, None if it is to be entered."""
        noted = pair in self._pairs
        has_left = self._lefts.get(pair[0], 0) > 0
        has_right = self._rights.get(pair[1], 0) > 0
        if by == "left":
            return True if has_left else None
        if by == "right":
            return True if has_right else None
        if by == "pair":
            return True if noted else None
        if has_left or (by == "match" and has_right):
            return noted
        return None

    def all_kept(self):
        """The pairs, ascending."""
        return sorted(self._pairs)


class OpenPair:
    """A pair that is entered and not left.

    What is ahead are tuples (field, left, right): two things to be met if the field is None, otherwise this field of
    the two is unlike. Guarded is how many pairs on the way there are up to the last one with a guard.
    """

    def __init__(self, pair, by_way, guarded, ahead):
        self.both = pair
        self.by_way = by_way
        self.guarded = guarded
        self._ahead = ahead
        self._at = 0

    def next_part(self):
        """The next part of what is ahead, None behind the last one."""
        return self._ahead[self._at] if self._at < len(self._ahead) else None

    def go_on(self):
        """Leaves the next part behind."""
        self._at += 1


def _parted_guard(guard):
    """The keep and the by of a guard, None if it asks nothing."""
    if guard == "none":
        return None
    return tuple(guard.split(" "))


class Comparing:
    """A comparison of two webs, event by event."""

    def __init__(self, comparer, first, second, *, most=2000):
        if first.house != comparer.house:
            raise BadHouse("first")
        if second.house != comparer.house:
            raise BadHouse("second")
        self.comparer = comparer
        self.entered = 0
        self.result = None
        self._first = first
        self._second = second
        self._most = most
        house = comparer.house
        self._guards = {kind: _parted_guard(comparer.guard_of(kind)) for kind in house.names}
        self._fields = {kind: [field for field in house.fields_of(kind) if comparer.is_in(kind, field.name)]
                        for kind in house.names}
        self._notes = Notes()
        # The pairs on the way, outermost first, and the places among them at which a pair stands.
        self._open = []
        self._places = {}
        self._events = []

    def step(self):
        """Makes the next event and returns it, None behind the last one."""
        if self.result is not None:
            return None
        event = self._gone_on(self._open[-1]) if self._open else self._met((self._first.here, self._second.here))
        self._events.append(event)
        return event

    def finish(self):
        """Makes all events that are left and returns the result."""
        while self.step() is not None:
            pass
        return self.result

    def events(self):
        """The events so far."""
        return list(self._events)

    def notes(self):
        """The notes that are kept now, ascending."""
        return self._notes.all_kept()

    def on_way(self):
        """The pairs on the way, outermost first."""
        return [entry.both for entry in self._open]

    def _gone_on(self, entry):
        """Goes on with the innermost pair on the way; the event."""
        part = entry.next_part()
        if part is None:
            return self._left()
        field, left, right = part
        if field is not None:
            return self._unlike((left, right), "field", field)
        event = self._met((left, right))
        # An entry that is refused is still ahead.
        entry.go_on()
        return event

    def _unlike(self, pair, why, field):
        """Ends the comparison; the event."""
        self.result = "unlike"
        return ("unlike", *pair, why, field)

    def _met(self, pair):
        """Meets two things; the event."""
        kind = self._first.kind_of(pair[0])
        if kind != self._second.kind_of(pair[1]):
            return self._unlike(pair, "kind", None)
        guard = self._guards[kind]
        if guard is not None:
            answer = self._notes.asked(guard[1], pair)
            if answer is not None:
                return ("known", *pair) if answer else self._unlike(pair, "guard", None)
        guarded = self._open[-1].guarded if self._open else 0
        places = self._places.setdefault(pair, [])
        if places and places[-1] >= guarded:
            self.result = "endless"
            return ("endless", *pair)
        if self.entered >= self._most:
            raise TooLarge(self._most)
        places.append(len(self._open))
        self._enter(pair, kind, guard, guarded)
        return ("enter", *pair)

    def _enter(self, pair, kind, guard, guarded):
        """Enters a pair."""
        if guard is not None:
            self._notes.note(pair)
            guarded = len(self._open) + 1
        self.entered += 1
        by_way = guard is not None and guard[0] == "way"
        self._open.append(OpenPair(pair, by_way, guarded, self._parts_ahead(kind, pair)))

    def _parts_ahead(self, kind, pair):
        """What is ahead of a pair that is entered, up to the first field that is unlike."""
        found = []
        for field in self._fields[kind]:
            left, right = self._first[pair[0], field.name], self._second[pair[1], field.name]
            if field.mode == "mark":
                unlike = left != right
            elif field.mode == "list":
                unlike = len(left) != len(right)
            else:
                unlike = (left is None) != (right is None)
            if unlike:
                return [*found, (field.name, *pair)]
            if field.mode == "list":
                found.extend([(None, one, other) for one, other in zip(left, right)])
            elif field.mode == "link" and left is not None:
                found.append((None, left, right))
        return found

    def _left(self):
        """Leaves the innermost pair on the way; the event."""
        entry = self._open.pop()
        places = self._places[entry.both]
        places.pop()
        if entry.by_way:
            self._notes.forget(entry.both)
        if not self._open:
            self.result = "equal"
        return ("leave", *entry.both)


def compare(comparer, first, second, *, most=2000):
    """The result of a comparison."""
    return Comparing(comparer, first, second, most=most).finish()
