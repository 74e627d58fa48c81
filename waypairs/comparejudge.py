"""The judge of comparers: why a comparer is wrong, and which guards make one right."""

from waypairs.chains import Chains, falling_ranks, fork_length
from waypairs.comparers import Comparer
from waypairs.comparing import compare
from waypairs.errors import BadManner, UnknownKind
from waypairs.matching import alike
from waypairs.pairwebs import endless_pair, fork_pair, out_pair, ring_pair

# The guard of all other kinds where the guards of one kind are tried.
PLAIN_GUARD = "way pair"


class Cause:
    """A reason why a comparer is wrong at a kind, with a pair of webs."""

    def __init__(self, result, kind, why, size, webs, *, field=None):
        self.result = result
        self.kind = kind
        self.why = why
        self.field = field
        self.size = size
        self._webs = webs

    def pair(self):
        """Two home webs with as many things together as the size, of which the comparison gives the wrong result."""
        return self._webs


class ComparerVerdict:
    """What is known of a comparer for a set of manners: the causes why it is wrong, if there are any."""

    def __init__(self, comparer, manners, causes):
        self.comparer = comparer
        self.manners = manners
        self.is_right = causes == []
        self._causes = list(causes)

    def __len__(self):
        return len(self._causes)

    def causes(self):
        """The causes, by kinds."""
        return list(self._causes)


def _steps_of(comparer):
    """For each kind the steps (slot, kind) from it by slots that are in."""
    house = comparer.house
    steps = {}
    for kind in house.names:
        names = [name for name in house.slots_of(kind) if comparer.is_in(kind, name)]
        steps[kind] = [(name, other) for name in names for other in house.admitted(house.field_of(kind, name).target)]
    return steps


def _whole_chains(comparer):
    """The chains through all kinds."""
    return Chains(comparer.house, _steps_of(comparer), comparer.house.names)


class CauseFinder:
    """Finds the causes of a comparer for a set of manners."""

    def __init__(self, comparer, manners):
        self._comparer = comparer
        self._manners = manners
        self._house = comparer.house
        self._steps = _steps_of(comparer)
        self._whole = Chains(self._house, self._steps, self._house.names)
        free = [kind for kind in self._house.names if not self._has_guard(kind)]
        self._free = Chains(self._house, self._steps, free)
        self._leads = self._whole.from_root()

    def met(self):
        """The kinds that are met, in the order of the house."""
        return [kind for kind in self._house.names if kind in self._leads]

    def causes_at(self, kind):
        """The causes at a kind that is met, in order."""
        found = [self._out_cause(kind, field) for field in self._house.fields_of(kind)
                 if not self._comparer.is_in(kind, field.name)]
        found.extend([self._known_cause(kind), self._torn_cause(kind), self._match_cause(kind), self._ring_cause(kind)])
        return [cause for cause in found if cause is not None]

    def _has_guard(self, kind):
        """Whether a kind has a guard other than none."""
        return self._comparer.guard_of(kind) != "none"

    def _guard(self, kind):
        """The keep and the by of a kind's guard, both none if it is none."""
        if not self._has_guard(kind):
            return ("none", "none")
        return tuple(self._comparer.guard_of(kind).split(" "))

    def _is_told_apart(self, kind):
        """Whether the manners tell two things of a kind from one."""
        if self._house.key_of(kind) is not None:
            return False
        return "ask" in self._manners or ("set" in self._manners and self._house.is_movable(kind))

    def _seen_fork(self, kind):
        """The shortest fork of a kind whose guard keeps lasting, otherwise None."""
        return self._whole.fork(kind) if self._guard(kind)[0] == "lasting" else None

    def _ring_size(self, kind, ring):
        """How many things a web with a ring behind a lead has, twice."""
        return 2 * (len(self._leads[kind]) + len(ring))

    def _out_cause(self, kind, field):
        """The cause of a field that is out."""
        lead = self._leads[kind]
        size = 2 * len(lead) + (2 if field.mode == "mark" else 3)
        return Cause("equal", kind, "out", size, out_pair(self._house, lead, field), field=field.name)

    def _known_cause(self, kind):
        """The cause of a guard that takes unlike things as known, or None."""
        by = self._guard(kind)[1]
        fields = self._house.fields_of(kind)
        if by not in ("left", "right") or not (fields or "ask" in self._manners):
            return None
        fork, ring = self._seen_fork(kind), self._whole.ring_at(kind)
        if fork is not None:
            more = 1 if fields and not self._house.marks_of(kind) else 0
            size = 2 * fork_length(fork) + 1 + more
            webs = fork_pair(self._house, fork, unlike=self._telling_field(kind))
        elif ring is not None:
            size = self._ring_size(kind, ring) + 1
            webs = ring_pair(self._house, self._leads[kind], ring, goes_on=False)
        else:
            return None
        return Cause("equal", kind, "known", size, webs if by == "left" else webs[::-1])

    def _telling_field(self, kind):
        """The field by which a thing of a kind is made unlike another one, if possible a mark; None without fields."""
        fields = self._house.fields_of(kind)
        # Two things of a web must differ in their key.
        keys = [field for field in fields if field.name == self._house.key_of(kind)]
        marks = [field for field in fields if field.mode == "mark"]
        return (keys + marks + fields + [None])[0]

    def _torn_cause(self, kind):
        """The cause of a guard that takes two things as one, or None."""
        if not self._is_told_apart(kind):
            return None
        guard = self._guard(kind)
        fork = self._whole.fork(kind)
        if fork is not None and guard != ("lasting", "match"):
            # Without ask the things must hold something that can be changed.
            fills = "ask" not in self._manners and not self._house.marks_of(kind)
            size = 2 * fork_length(fork) + (3 if fills else 1)
            webs = fork_pair(self._house, fork, filled=self._house.slots_of(kind)[0] if fills else None)
        else:
            ring = None if guard[1] == "match" else self._guarded_ring(kind)
            if ring is None:
                return None
            size = self._ring_size(kind, ring) + 1
            webs = ring_pair(self._house, self._leads[kind], ring, goes_on=True)
        return Cause("equal", kind, "torn", size, webs[::-1])

    def _guarded_ring(self, kind):
        """A shortest ring of a kind on which some kind has a guard, or None."""
        if self._has_guard(kind):
            return self._whole.ring_at(kind)
        rings = []
        for other in self.met():
            there, back = self._whole.chain(kind, other), self._whole.chain(other, kind)
            if self._has_guard(other) and there is not None and back is not None:
                rings.append(there + back)
        return min(rings, key=len, default=None)

    def _match_cause(self, kind):
        """The cause of a guard that takes alike things as unlike, or None."""
        keep, by = self._guard(kind)
        if by not in ("map", "match") or self._house.key_of(kind) is not None:
            return None
        ring = None
        if not self._is_told_apart(kind):
            fork, ring = self._seen_fork(kind), self._whole.ring_at(kind)
        elif "ask" in self._manners or self._house.marks_of(kind) or keep != "lasting":
            return None
        else:
            fork = self._bare_fork(kind)
        if fork is not None:
            return Cause("unlike", kind, "match", 2 * fork_length(fork) + 1, fork_pair(self._house, fork))
        if ring is None:
            return None
        webs = ring_pair(self._house, self._leads[kind], ring, goes_on=True)
        return Cause("unlike", kind, "match", self._ring_size(kind, ring) + 1, webs)

    def _bare_fork(self, kind):
        """A shortest fork of a kind through kinds that no link of this kind can hold, or None."""
        targets = [field.target for field in self._house.fields_of(kind) if field.mode == "link"]
        held = [other for target in targets for other in self._house.admitted(target)]
        bare = [other for other in self._house.names if other not in held]
        return Chains(self._house, self._steps, bare).fork(kind)

    def _ring_cause(self, kind):
        """The cause of a ring of kinds without guards, or None."""
        ring = None if self._has_guard(kind) else self._free.ring_at(kind)
        if ring is None:
            return None
        webs = endless_pair(self._house, self._leads[kind], ring)
        return Cause("endless", kind, "ring", self._ring_size(kind, ring), webs)


def _check_manners(manners):
    """Raises if old is among the manners."""
    if "old" in manners:
        raise BadManner("old")


def met_kinds(comparer):
    """For each kind that is met whether it has a fork and whether it has a ring."""
    chains = _whole_chains(comparer)
    leads = chains.from_root()
    return {kind: (chains.fork(kind) is not None, chains.ring_at(kind) is not None)
            for kind in comparer.house.names if kind in leads}


def judge_comparer(comparer, manners):
    """The verdict on a comparer for a set of manners."""
    _check_manners(manners)
    finder = CauseFinder(comparer, manners)
    causes = [cause for kind in finder.met() for cause in finder.causes_at(kind)]
    return ComparerVerdict(comparer, manners, causes)


def ranks(comparer):
    """For each kind that is met and has no guard the most steps from it through such kinds; None if there is a ring."""
    steps = _steps_of(comparer)
    free = [kind for kind in met_kinds(comparer) if comparer.guard_of(kind) == "none"]
    return falling_ranks({kind: [other for _, other in steps[kind] if other in free] for kind in free})


def wrong_result(comparer, manners, first, second, *, most=2000):
    """The result of a comparison if it is wrong, otherwise None."""
    _check_manners(manners)
    result = compare(comparer, first, second, most=most)
    if result == "endless":
        return result
    return None if (result == "equal") == alike(first, second, manners) else result


def fitting(house, kind, manners):
    """The guards that fit a kind."""
    if kind not in house:
        raise UnknownKind(kind)
    _check_manners(manners)
    return [guard for guard in Comparer.GUARDS if _fits(house, kind, manners, guard)]


def _fits(house, kind, manners, guard):
    """Whether a guard fits a kind."""
    guards = {name: PLAIN_GUARD for name in house.names}
    guards[kind] = guard
    finder = CauseFinder(Comparer(house, guards=guards), manners)
    if kind not in finder.met():
        return True
    return all([cause.why == "ring" for cause in finder.causes_at(kind)])


def _choices(count, size):
    """All ascending tuples of this many of the first integers, ascending."""
    found = [()]
    for _ in range(size):
        found = [(*chosen, place) for chosen in found for place in range(chosen[-1] + 1 if chosen else 0, count)]
    return found


def fewest_guards(house, manners):
    """All smallest sets of kinds that need guards, so that a comparer with no other guards is right."""
    _check_manners(manners)
    comparer = Comparer(house)
    steps = _steps_of(comparer)
    met = list(met_kinds(comparer))
    fits = {kind: fitting(house, kind, manners) for kind in met}
    for size in range(len(met) + 1):
        found = []
        for places in _choices(len(met), size):
            chosen = tuple([met[place] for place in places])
            if _is_enough(steps, fits, chosen):
                found.append(chosen)
        if found:
            return found
    return []


def _is_enough(steps, fits, chosen):
    """Whether a comparer with guards for the chosen kinds alone can be right; fits has the guards that fit."""
    free = [kind for kind in fits if kind not in chosen]
    if not all(["none" in fits[kind] for kind in free]):
        return False
    if not all([fits[kind] not in ([], ["none"]) for kind in chosen]):
        return False
    return falling_ranks({kind: [other for _, other in steps[kind] if other in free] for kind in free}) is not None


def right_comparer(house, manners):
    """The comparer with the first of the fewest guards; None if there are none."""
    fewest = fewest_guards(house, manners)
    if not fewest:
        return None
    guards = {kind: "none" for kind in house.names}
    for kind in fewest[0]:
        guards[kind] = [guard for guard in fitting(house, kind, manners) if guard != "none"][0]
    return Comparer(house, guards=guards)
