"""Manners: what a client may do besides looking."""

from waypairs.errors import BadManner


class Manners:
    """A set of manners."""

    WORDS = ("ask", "old", "set")

    def __init__(self, *names):
        given = []
        for name in names:
            if name not in Manners.WORDS or name in given:
                raise BadManner(name)
            given.append(name)
        self.names = tuple([word for word in Manners.WORDS if word in given])

    def __eq__(self, other):
        return isinstance(other, Manners) and self.names == other.names

    def __len__(self):
        return len(self.names)

    def __contains__(self, x):
        return x in self.names

    def __or__(self, other):
        words = [word for word in Manners.WORDS if word in self.names or word in other.names]
        return Manners(*words)

    def within(self, other):
        """Whether each of these manners is in other."""
        return all([word in other.names for word in self.names])

    @staticmethod
    def every():
        """All eight sets: smaller ones first."""
        return [Manners(), Manners("ask"), Manners("old"), Manners("set"), Manners("ask", "old"),
                Manners("ask", "set"), Manners("old", "set"), Manners("ask", "old", "set")]
