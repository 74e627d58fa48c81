"""The things of heaps, and the entries of a walk that are not left yet."""


class HeapThing:
    """A thing of a heap: its kind, the house whose fields it has, what they hold, and how it was made."""

    def __init__(self, kind, house, content, *, origin=None, travel=0, memo=None):
        self.kind = kind
        self.house = house
        self.content = content
        self.origin = origin
        self.travel = travel
        self.memo = memo


class OpenEntry:
    """A thing that is entered and not left.

    A later entry is repeated if it has the same sign. What is ahead are tuples (held thing, fate, taking field).
    """

    def __init__(self, thing, new, memo, sign, ahead):
        self.thing = thing
        self.new = new
        self.memo = memo
        self.sign = sign
        self._ahead = ahead
        self._at = 0

    def is_done(self):
        """Whether nothing is ahead."""
        return self._at == len(self._ahead)

    def take_next(self):
        """Takes the next part of what is ahead."""
        self._at += 1
        return self._ahead[self._at - 1]
