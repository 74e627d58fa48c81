"""Words of ways: by which travels the thing was made to which a way leads."""

from waypairs.errors import BadStanding
from waypairs.fieldtables import astray, fates_along
from waypairs.forms import is_integer


def is_made(value, size):
    """Whether any value is an ascending tuple of travels of a row of this size."""
    if not isinstance(value, tuple) or not all([is_integer(travel) and 1 <= travel <= size for travel in value]):
        return False
    return all([earlier < later for earlier, later in zip(value, value[1:])])


def stepped(made, fates):
    """The travels of which a step by a field with these fates keeps the making, None if it is lost on the way."""
    kept = []
    for travel in made:
        fate = fates[travel - 1]
        if fate == "lost":
            return None
        if fate == "named":
            kept = []
        elif fate != "stays":
            kept.append(travel)
    return tuple(kept)


class StepGroup:
    """Links and lists of a kind with the same fates and target: they lead on alike.

    Two different steps can be taken by them if there are several, or one that is a list.
    """

    def __init__(self, fates, kinds, name, has_two):
        self.fate_row = fates
        self.kinds = kinds
        self.names = [name]
        self.has_two = has_two

    def add_slot(self, name):
        """Adds a link or list."""
        self.names.append(name)
        self.has_two = True


class Lens:
    """What a row does with the kinds and fields of its home."""

    def __init__(self, row):
        self.row = row
        self.size = row.size
        self.start = ("one", row.home.root, tuple(range(1, row.size + 1)))
        # The fates of the home fields at all travels, None for those that are astray.
        self._along = {}
        for kind in row.home.names:
            for field in row.home.fields_of(kind):
                lost = astray(row, kind, field.name)
                self._along[kind, field.name] = None if lost else tuple(fates_along(row, kind, field.name))
        self._groups = {kind: self._grouped(kind) for kind in row.home.names}
        # For each reached word the word before it on a shortest way and the step from there, None for the first one.
        self._before = self._reached()

    def fates(self, kind, field):
        """The fates of a home field at all travels, None if it is astray."""
        self.row.home.field_of(kind, field)
        return self._along[kind, field]

    def rules(self, kind):
        """The rules of a kind at all travels."""
        return tuple([travel.rule(kind) for travel in self.row])

    def is_word(self, value):
        """Whether any value is a word: a kind and travels."""
        if not isinstance(value, tuple) or len(value) != 2:
            return False
        return value[0] in self.row.home and is_made(value[1], self.size)

    def broken(self, word):
        """The names of the fields that are broken for a word, in order."""
        if not self.is_word(word):
            raise BadStanding()
        kind, made = word
        names = [field.name for field in self.row.home.fields_of(kind)]
        return [name for name in names if self._stepped(kind, made, name) is None]

    def step(self, word, field, kind):
        """The word behind a step to a kind, None if the field is broken."""
        if not self.is_word(word):
            raise BadStanding()
        home = self.row.home
        taken = home.field_of(word[0], field)
        if taken.mode == "mark" or kind not in home or not home.admits(taken.target, kind):
            raise BadStanding()
        made = self._stepped(word[0], word[1], field)
        return None if made is None else (kind, made)

    def words(self):
        """All reached words, those with shorter ways first."""
        return list(self._before)

    def way_to(self, word):
        """The steps (field, kind) of a shortest way to a reached word."""
        if not self.is_word(word) or word not in self._before:
            raise BadStanding()
        way = []
        at = self._before[word]
        while at is not None:
            before, field, kind = at
            way.append((field, kind))
            at = self._before[before]
        return way[::-1]

    def groups(self, kind):
        """The links and lists of a kind that are not astray, as groups that lead on alike."""
        return self._groups[kind]

    def _stepped(self, kind, made, name):
        """What a step by a field keeps of the travels, None if the field is broken."""
        fates = self._along[kind, name]
        return None if fates is None else stepped(made, fates)

    def _grouped(self, kind):
        """The groups of a kind."""
        home = self.row.home
        found = {}
        for name in home.slots_of(kind):
            fates = self._along[kind, name]
            if fates is not None:
                field = home.field_of(kind, name)
                if (fates, field.target) in found:
                    found[fates, field.target].add_slot(name)
                else:
                    group = StepGroup(fates, home.admitted(field.target), name, field.mode == "list")
                    found[fates, field.target] = group
        return list(found.values())

    def _reached(self):
        """The reached words, those with shorter ways first, with the words before them and the steps."""
        home = self.row.home
        start = self.start[1:]
        before = {start: None}
        order = [start]
        at = 0
        while at < len(order):
            word = order[at]
            at += 1
            for name in home.slots_of(word[0]):
                made = self._stepped(word[0], word[1], name)
                if made is None:
                    continue
                for kind in home.admitted(home.field_of(word[0], name).target):
                    if (kind, made) not in before:
                        before[kind, made] = (word, name, kind)
                        order.append((kind, made))
        return before
