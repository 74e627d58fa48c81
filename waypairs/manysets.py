"""Profiles: which sets of manners tell."""

from waypairs.manners import Manners


def _least(sets):
    """Those of some sets of manners within which no unequal one of them is, once each, in the order of all sets."""
    given = [one for one in Manners.every() if one in sets]
    return tuple([one for one in given if not any([other.within(one) and other != one for other in given])])


class Profile:
    """The sets of manners that tell, kept by the least ones."""

    def __init__(self, sets=()):
        self.least_sets = _least(list(sets))

    def __eq__(self, other):
        return isinstance(other, Profile) and self.least_sets == other.least_sets

    def __len__(self):
        return len([manners for manners in Manners.every() if self._tells(manners)])

    def __iter__(self):
        return iter(self.least_sets)

    def __contains__(self, x):
        return isinstance(x, Manners) and self._tells(x)

    def __or__(self, other):
        return Profile(self.least_sets + other.least_sets)

    def __and__(self, other):
        return Profile([one | another for one in self.least_sets for another in other.least_sets])

    @classmethod
    def of(cls, verdict):
        """The profile of a verdict."""
        if verdict.word == "endless":
            return cls([Manners()])
        return cls([manners for row in verdict.faults() for manners in row[3]])

    @property
    def is_quiet(self):
        """Whether no set tells."""
        return len(self.least_sets) == 0

    def greatest(self):
        """The greatest sets that do not tell."""
        quiet = [manners for manners in Manners.every() if not self._tells(manners)]
        return [one for one in quiet if not any([one.within(other) and one != other for other in quiet])]

    def within(self, other):
        """Whether every set that tells by this profile tells by the other one."""
        return all([manners in other for manners in self.least_sets])

    def _tells(self, manners):
        """Whether a set tells."""
        return any([least.within(manners) for least in self.least_sets])


def least_telling(verdict):
    """The least sets of manners that tell by a verdict."""
    return list(Profile.of(verdict))


def greatest_quiet(verdict):
    """The greatest sets of manners that do not tell by a verdict."""
    return Profile.of(verdict).greatest()
