"""Registers: the keys and marks of the things of registered kinds of a home web."""

from waypairs.errors import BadWeb
from waypairs.forms import is_integer
from waypairs.rules import fault


def _named_marks(web):
    """The marks of the things of registered kinds, by their kinds and keys."""
    marks = {}
    for thing in range(len(web)):
        kind = web.kind_of(thing)
        if web.house.is_registered(kind):
            key = web[thing, web.house.key_of(kind)]
            marks[kind, key] = {name: web[thing, name] for name in web.house.marks_of(kind)}
    return marks


class Register:
    """The keys and marks of the things of registered kinds of a home web."""

    def __init__(self, web):
        wrong = fault(web)
        if wrong is not None:
            raise BadWeb(wrong[1])
        self._marks = _named_marks(web)
        names = web.house.names
        # By the places of the kinds in the house, then by the keys.
        places = sorted([(names.index(kind), key) for kind, key in self._marks])
        self._names = [(names[place], key) for place, key in places]

    def __contains__(self, x):
        if not isinstance(x, tuple) or len(x) != 2:
            return False
        return isinstance(x[0], str) and is_integer(x[1]) and x in self._marks

    def __len__(self):
        return len(self._names)

    def __iter__(self):
        return iter(self._names)

    def values_of(self, kind, key):
        """The marks of the thing of this kind with this key, None for any values of which there is none."""
        if (kind, key) not in self:
            return None
        return dict(self._marks[kind, key])
