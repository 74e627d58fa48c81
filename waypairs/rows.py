"""Rows: travels that follow one another and end at home."""

from waypairs.errors import BadRow
from waypairs.forms import is_index, is_integer

MOST_TRAVELS = 4


def first_unfit(travels):
    """The least number, from 2 on, of a travel that does not begin where the one before it ends, or None."""
    for at, (earlier, later) in enumerate(zip(travels, travels[1:])):
        if later.source != earlier.target:
            return at + 2
    return None


def check_following(travels):
    """Raises unless there are one to four travels that follow one another."""
    if not 1 <= len(travels) <= MOST_TRAVELS:
        raise BadRow(0)
    unfit = first_unfit(travels)
    if unfit is not None:
        raise BadRow(unfit)


class Row:
    """One to four travels, numbered from 1; the last one ends where the first one begins."""

    def __init__(self, travels):
        check_following(travels)
        if travels[-1].target != travels[0].source:
            raise BadRow(len(travels))
        self.travels = tuple(travels)
        self.size = len(travels)
        self.home = travels[0].source

    def __eq__(self, other):
        return isinstance(other, Row) and self.travels == other.travels

    def __len__(self):
        return len(self.travels)

    def __iter__(self):
        return iter(self.travels)

    def __getitem__(self, at):
        if not is_integer(at) or not 1 <= at <= self.size:
            raise BadRow(at)
        return self.travels[at - 1]

    def __rshift__(self, other):
        return Row([*self.travels, *other.travels])

    def houses(self):
        """The houses of the levels."""
        targets = [travel.target for travel in self.travels]
        return [self.home, *targets]

    def cut(self, k):
        """The first k travels."""
        if not is_index(k, self.size + 1):
            raise BadRow(k)
        return list(self.travels[:k])
