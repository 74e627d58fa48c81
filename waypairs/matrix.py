"""Atlases: travels by names and the rows that they make; and editions there and back."""

from waypairs.errors import BadName, BadReader, BadRow, TooLarge
from waypairs.forms import NAME_LETTERS, is_word
from waypairs.manysets import Profile
from waypairs.rows import MOST_TRAVELS, Row
from waypairs.travels import Travel
from waypairs.verdicts import judge

ATLAS_TRAVELS = 6
MOST_RUNS = 64
MOST_HOUSES = 4


class Atlas:
    """Travels by names, and the rows of them that begin at a home."""

    def __init__(self, home, travels):
        if len(travels) > ATLAS_TRAVELS:
            raise TooLarge(len(travels))
        for name in sorted(travels):
            if not is_word(name, NAME_LETTERS):
                raise BadName(name)
        self.home = home
        self.names = tuple(sorted(travels))
        self._travels = {name: travels[name] for name in self.names}

    def runs(self, most=MOST_TRAVELS):
        """The runs of at most this many names, by length, then as tuples."""
        found = []
        for run in self._followed(most):
            if self._travels[run[-1]].target == self.home:
                found.append(run)
        return found

    def _followed(self, most):
        """The tuples of at most this many names whose travels follow one another from the home on."""
        found = []
        last = [()]
        for _ in range(most):
            last = [(*run, name) for run in last for name in self.names if self._goes_on(run, name)]
            found.extend(last)
        return found

    def _goes_on(self, run, name):
        """Whether a travel begins where those before it end, or at home if there are none."""
        begin = self._travels[run[-1]].target if run else self.home
        return self._travels[name].source == begin

    def row_named(self, names):
        """The row of these names."""
        for name in names:
            if name not in self.names:
                raise BadName(name)
        if not 1 <= len(names) <= MOST_TRAVELS:
            raise BadRow(0)
        if self._travels[names[0]].source != self.home:
            raise BadRow(1)
        return Row([self._travels[name] for name in names])

    def profile(self, names):
        """The profile of the row of these names."""
        return Profile.of(judge(self.row_named(names)))

    def _profiles(self, most):
        """The profiles of the runs of at most this many names."""
        runs = self.runs(most)
        if len(runs) > MOST_RUNS:
            raise TooLarge(len(runs))
        return {run: self.profile(run) for run in runs}

    def quiet_runs(self, manners, most=2):
        """The runs that are quiet for a set of manners."""
        profiles = self._profiles(most)
        return [run for run in profiles if manners not in profiles[run]]

    def healed(self, manners, most=2):
        """The quiet runs that begin with a run that is not, each with the least number of names of such a beginning."""
        profiles = self._profiles(most)
        telling = [run for run in profiles if manners in profiles[run]]
        found = []
        for run in profiles:
            counts = [count for count in range(1, len(run)) if run[:count] in telling]
            if counts and run not in telling:
                found.append((run, counts[0]))
        return found


def there_and_back(writer, reader):
    """The row of two saving travels, from the writer to the reader and back."""
    there = Travel(writer, reader=reader)
    return Row([there, Travel(reader, reader=writer)])


def _profile_between(writer, reader):
    """The profile of the row there and back, None if one of the houses is no edition of the other."""
    try:
        row = there_and_back(writer, reader)
    except BadReader:
        return None
    return Profile.of(judge(row))


def matrix(houses):
    """For each house and each other one the profile of the row there and back."""
    if not 1 <= len(houses) <= MOST_HOUSES:
        raise TooLarge(len(houses))
    return [[_profile_between(writer, reader) for reader in houses] for writer in houses]
