"""Standings of two ways: which follow from which, what is wrong with them, and who can tell."""

from waypairs.errors import BadStanding
from waypairs.manners import Manners
from waypairs.meetings import alone, meeting, together
from waypairs.oneway import is_made, stepped

# The parts of a standing behind its word: kinds, travels, truth values for each travel, one truth value.
PARTS = {
    "one": ("kind", "made"),
    "torn": ("kind", "made", "made", "truths", "truths"),
    "two": ("kind", "made", "kind", "made", "truths"),
    "held": ("kind", "made", "kind", "made", "truths", "truth"),
    "joined": ("kind", "made", "made"),
}


def _is_part(lens, part, value):
    """Whether any value can be a part of this sort in a standing."""
    if part == "kind":
        return value in lens.row.home
    if part == "made":
        return is_made(value, lens.size)
    if part == "truth":
        return isinstance(value, bool)
    if not isinstance(value, tuple) or len(value) != lens.size:
        return False
    return all([isinstance(one, bool) for one in value])


def _is_joinable(house, kind):
    """Whether two things of a kind can be joined: it is a leaf without a key."""
    return house.is_leaf(kind) and house.key_of(kind) is None


def is_standing(lens, value):
    """Whether any value is a standing for the row of a lens."""
    if not isinstance(value, tuple) or not value or not isinstance(value[0], str) or value[0] not in PARTS:
        return False
    parts = PARTS[value[0]]
    if len(value) != len(parts) + 1 or not all([_is_part(lens, part, one) for part, one in zip(parts, value[1:])]):
        return False
    return value[0] != "joined" or _is_joinable(lens.row.home, value[1])


def _check(lens, standing):
    """Raises for any value that is no standing."""
    if not is_standing(lens, standing):
        raise BadStanding()


class Following:
    """The standings that follow from one of them, collected each once for each cost, with a move that leads there.

    A move is a tuple (word, first, second). The word is "both" if the two ways take the same step, "apart" if they lead
    to two things then, "meet" if they come to one thing, "swap" if they change places, "join" if nothing is done.
    First and second are the steps of the two ways, (group, kind), None for a way that takes none.
    """

    def __init__(self, lens):
        self.lens = lens
        self._found = {}

    def add_standing(self, standing, cost, move):
        """Adds a standing."""
        if (standing, cost) not in self._found:
            self._found[standing, cost] = move

    def add_meeting(self, kind, made, others, memos, cost, move, *, same=None):
        """Adds what arises when both ways come to one thing of a kind, if anything new does."""
        ones = meeting(self.lens.rules(kind), made, others, memos, same=same)
        if not ones[-1]:
            self.add_standing(("torn", kind, made, others, ones, memos), cost, move)

    def moves(self):
        """The moves that lead to what was added, by standings and costs."""
        return {reached: self._found[reached] for reached in self._found}


def _taken(lens, kind, made):
    """The groups by which a way can step on, each with what its new word keeps of the travels."""
    found = []
    for group in lens.groups(kind):
        new = stepped(made, group.fate_row)
        if new is not None:
            found.append((group, new))
    return found


def _add_partings(following, kind, made, others, memos):
    """Adds what arises when both ways step on from one thing by different steps."""
    for group, new in _taken(following.lens, kind, made):
        first = alone(group.fate_row, new, others, memos)
        for other_group, other_new in _taken(following.lens, kind, others):
            if group == other_group and not group.has_two:
                continue
            both = alone(other_group.fate_row, other_new, new, first)
            for one in group.kinds:
                for other in other_group.kinds:
                    move = ("apart", (group, one), (other_group, other))
                    following.add_standing(("two", one, new, other, other_new, both), 2, move)
                if one in other_group.kinds:
                    following.add_meeting(one, new, other_new, both, 2, ("meet", (group, one), (other_group, one)))


def _add_holdings(following, kind, made, others, memos):
    """Adds what arises when the first way steps on from one thing, and the second one waits there."""
    house = following.lens.row.home
    for group, new in _taken(following.lens, kind, made):
        after = alone(group.fate_row, new, others, memos)
        for one in group.kinds:
            free = not house.is_frozen(kind) and not house.is_frozen(one)
            following.add_standing(("held", kind, others, one, new, after, free), 1, ("apart", (group, one), None))
        if kind in group.kinds and not house.is_frozen(kind):
            following.add_meeting(kind, new, others, after, 1, ("meet", (group, kind), None))


def _from_one(following, standing):
    """Adds what follows from one way."""
    _, kind, made = standing
    for group, new in _taken(following.lens, kind, made):
        for one in group.kinds:
            following.add_standing(("one", one, new), 2, ("both", (group, one), (group, one)))
    memos = tuple([travel in made for travel in range(1, following.lens.size + 1)])
    _add_partings(following, kind, made, made, memos)
    _add_holdings(following, kind, made, made, memos)


def _from_torn(following, standing):
    """Adds what follows from two ways to one thing that has become two."""
    _, kind, made, others, same, memos = standing
    house = following.lens.row.home
    if house.is_movable(kind) or house.is_leaf(kind):
        return
    for group, new in _taken(following.lens, kind, made):
        other_new = stepped(others, group.fate_row)
        if other_new is not None:
            both = together(group.fate_row, new, other_new, memos, same)
            for one in group.kinds:
                move = ("both", (group, one), (group, one))
                following.add_meeting(one, new, other_new, both, 2, move, same=same)
    _add_partings(following, kind, made, others, memos)
    _add_holdings(following, kind, made, others, memos)
    following.add_standing(("torn", kind, others, made, same, memos), 0, ("swap", None, None))


def _from_two(following, standing):
    """Adds what follows from two ways to two things."""
    _, kind, made, other_kind, others, memos = standing
    for group, new in _taken(following.lens, kind, made):
        after = alone(group.fate_row, new, others, memos)
        for one in group.kinds:
            move = ("apart", (group, one), None)
            following.add_standing(("two", one, new, other_kind, others, after), 1, move)
        if other_kind in group.kinds:
            following.add_meeting(other_kind, new, others, after, 1, ("meet", (group, other_kind), None))
    for group, new in _taken(following.lens, other_kind, others):
        after = alone(group.fate_row, new, made, memos)
        for one in group.kinds:
            move = ("apart", None, (group, one))
            following.add_standing(("two", kind, made, one, new, after), 1, move)
        if kind in group.kinds:
            following.add_meeting(kind, made, new, after, 1, ("meet", None, (group, kind)))
    if kind == other_kind and _is_joinable(following.lens.row.home, kind):
        if meeting(following.lens.rules(kind), made, others, memos, home=False)[-1]:
            following.add_standing(("joined", kind, made, others), 0, ("join", None, None))


def _from_held(following, standing):
    """Adds what follows from a way that waits while the other one has moved on."""
    _, kind, made, other_kind, others, memos, free = standing
    house = following.lens.row.home
    for group, new in _taken(following.lens, other_kind, others):
        after = alone(group.fate_row, new, made, memos)
        for one in group.kinds:
            still_free = free and not house.is_frozen(one)
            move = ("apart", (group, one), None)
            following.add_standing(("held", kind, made, one, new, after, still_free), 1, move)
        if free and kind in group.kinds:
            following.add_meeting(kind, new, made, after, 1, ("meet", (group, kind), None))


def moves_from(lens, standing):
    """The moves that lead from a standing to those that follow, by tuples of these and their costs."""
    _check(lens, standing)
    following = Following(lens)
    if standing[0] == "one":
        _from_one(following, standing)
    elif standing[0] == "torn":
        _from_torn(following, standing)
    elif standing[0] == "two":
        _from_two(following, standing)
    elif standing[0] == "held":
        _from_held(following, standing)
    return following.moves()


def steps(lens, standing):
    """The standings that follow directly, each with its cost."""
    return list(moves_from(lens, standing))


def _fault_of_one(lens, kind, made):
    """The fault of a way with this word, or None."""
    if lens.broken((kind, made)):
        return "lost"
    registered = lens.row.home.is_registered(kind)
    if made == ():
        return None if registered else "shared"
    return "copied" if registered else None


def _is_merged(lens, kind, other, memos):
    """Whether two things can be known by equal marks though what they hold may be unlike."""
    if kind != other or lens.row.home.is_leaf(kind):
        return False
    return any([memo and rule == "marks" for memo, rule in zip(memos, lens.rules(kind))])


def fault(lens, standing):
    """The name of the fault of a standing, or None."""
    _check(lens, standing)
    word = standing[0]
    if word == "one":
        return _fault_of_one(lens, standing[1], standing[2])
    if word in ("torn", "joined"):
        return word
    return "merged" if _is_merged(lens, standing[1], standing[3], standing[5]) else None


def told_by(lens, standing):
    """The least sets of manners that tell by a standing, in ascending order of their names."""
    found = fault(lens, standing)
    if found is None:
        return []
    if found in ("lost", "merged"):
        return [Manners()]
    movable = lens.row.home.is_movable(standing[1])
    if found in ("shared", "copied"):
        return [Manners("ask", "old"), Manners("old", "set")] if movable else [Manners("ask", "old")]
    return [Manners("ask"), Manners("set")] if movable else [Manners("ask")]
