"""Examples: a web and a client that gets another answer from what came back than from the ideal pair."""

from waypairs.clientrun import first_difference
from waypairs.errors import BadStanding, Endless, TooLarge
from waypairs.freshmarks import fresh_marks
from waypairs.journeys import ideal, journey
from waypairs.rules import HOME_THINGS
from waypairs.standings import fault, told_by
from waypairs.twoways import grown_ways


class Example:
    """A home web with two ways that show a fault, and a client that tells it."""

    def __init__(self, web, client, both, shown, manners):
        self.web = web
        self.client = client
        self.one_way, self.other_way = both
        self.fault = shown
        self.manners = manners


def _words(standing):
    """The travels by which the last things of the two ways were made, as the standing tells them."""
    if standing[0] == "one":
        return (standing[2], standing[2])
    if standing[0] in ("torn", "joined"):
        return (standing[2], standing[3])
    return (standing[2], standing[4])


def _slot_of(lens, standing):
    """A link or list of the kind of a standing, if possible one that is broken for neither way."""
    kind = standing[1]
    broken = [name for made in _words(standing) for name in lens.broken((kind, made))]
    names = lens.row.home.slots_of(kind)
    whole = [name for name in names if name not in broken]
    return (whole + names)[0]


def _walked(name, root, way):
    """The lines of a client that walks along a way, and the name that holds the last thing then."""
    lines = []
    at = root
    for field, place in way:
        lines.append(("step", name, at, field, place))
        at = name
    return lines, at


class Ending:
    """The last lines of a client that tells by a standing, and what the last things of the ways must hold for it."""

    def __init__(self, lens, standing, least, both):
        self._lens = lens
        self._standing = standing
        self._least = least
        self._twoways = both
        self._house = lens.row.home
        self._shown = fault(lens, standing)
        # The words of the line that changes a thing, but for its name.
        self._change = None

    def prepare(self):
        """Lets the last things hold what the client needs."""
        grown, thing = self._twoways.grown, self._twoways.ends[0]
        if self._shown == "lost":
            self._prepare_loss(thing)
        elif self._shown == "merged":
            # A thing that is held by the other one is unlike it already.
            if self._standing[0] == "two":
                grown.fill(thing, _slot_of(self._lens, self._standing))
        elif "set" in self._least:
            self._prepare_change(thing)

    def _prepare_loss(self, thing):
        """Lets the thing hold something by a field that is broken, unless a mark is, which tells without it."""
        broken = self._lens.broken(self._standing[1:])
        if any([name in broken for name in self._house.marks_of(self._standing[1])]):
            return
        # What it holds should be of a kind of its own: else a walk may know it by equal marks as another thing, and
        # make a ring.
        fresh = [name for name in broken if self._twoways.grown.fresh_kinds(thing, name)]
        self._twoways.grown.fill(thing, (fresh + broken)[0])

    def _prepare_change(self, thing):
        """Finds a change of the thing that looking tells."""
        kind = self._standing[1]
        marks = [name for name in self._house.marks_of(kind) if name != self._house.key_of(kind)]
        if marks:
            # The thing behind all others would have marks that none of them has.
            later = fresh_marks(self._house, [*self._twoways.grown.kinds_so_far(), kind])[-1]
            self._change = ("mark", marks[0], later[marks[0]])
            return
        used = self._twoways.grown.used_slots(thing)
        if used:
            # The way round a ring leads on from the thing already.
            name = used[0]
        else:
            name = _slot_of(self._lens, self._standing)
            self._twoways.grown.fill(thing, name)
        if self._house.field_of(kind, name).mode == "link":
            self._change = ("link", name, None)
        else:
            self._change = ("clear", name)

    def client_on(self, web):
        """The client."""
        first, one = _walked("a", "here", self._twoways.first)
        if self._shown == "lost":
            return [*first, ("see", one)]
        second, other = _walked("b", "old" if "old" in self._least else "here", self._twoways.second)
        if self._shown == "merged":
            return self._seen(web, first + second, [("see", one), ("see", other)])
        if self._change is None:
            return [*first, *second, ("same", one, other)]
        return [*first, *second, (self._change[0], one, *self._change[1:]), ("see", other)]

    def _seen(self, web, steps, lines):
        """The steps and that one of the lines that tells: it depends on which thing the walk enters first."""
        at = _told_at(self._lens.row, web, steps + lines)
        if at is None or at < len(steps):
            return steps + lines
        return [*steps, lines[at - len(steps)]]


def _told_at(row, web, client):
    """The line at which a client tells what came back from the ideal pair, None if there is none."""
    try:
        pair = journey(row, web).pair()
    except (Endless, TooLarge):
        # What a row loses can make a ring of a web that has none.
        return None
    return first_difference(client, pair, ideal(web))


def _least_set(lens, standing, manners):
    """The first least set of manners, of those within the given ones, that tells by a standing."""
    for least in told_by(lens, standing):
        if least.within(manners):
            return least
    raise BadStanding()


def made_example(lens, closure, standing, manners):
    """The example for a reached standing by which these manners tell."""
    least = _least_set(lens, standing, manners)
    # A standing that is not reached has no trail.
    both = grown_ways(lens, closure, standing)
    shown = fault(lens, standing)
    ending = Ending(lens, standing, least, both)
    ending.prepare()
    if len(both.grown) > HOME_THINGS:
        raise TooLarge(HOME_THINGS)
    both.give_marks(shown in ("joined", "merged"))
    web = both.grown.finished()
    return Example(web, ending.client_on(web), (both.first, both.second), shown, least)
