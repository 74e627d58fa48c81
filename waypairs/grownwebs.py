"""Webs that are made thing by thing."""

from waypairs.webs import Web


class GrownWeb:
    """The things of a web to be, the root first; what is not given holds nothing."""

    def __init__(self, house):
        self.house = house
        self._things = []
        self.add_thing(house.root)

    def __len__(self):
        return len(self._things)

    def add_thing(self, kind):
        """Adds a thing that nothing holds yet; its number."""
        self._things.append((kind, {}))
        return len(self._things) - 1

    def let_hold(self, thing, name, held):
        """Lets a link hold a thing, or a list hold it at its end; the step that leads there."""
        kind, values = self._things[thing]
        if self.house.field_of(kind, name).mode == "link":
            values[name] = held
            return (name, None)
        places = values.setdefault(name, [])
        places.append(held)
        return (name, len(places) - 1)

    def grow(self, thing, steps):
        """Adds new things one behind the other, along steps (field, kind) from a thing; the last one."""
        for name, kind in steps:
            held = self.add_thing(kind)
            self.let_hold(thing, name, held)
            thing = held
        return thing

    def grow_back(self, thing, steps, held):
        """Adds new things likewise, but lets the last step lead to a thing that is held already."""
        last = self.grow(thing, steps[:-1])
        self.let_hold(last, steps[-1][0], held)

    def fill(self, thing, name):
        """Lets a link or list of a thing hold a new thing, if possible the only one of its kind; this new thing."""
        kinds = self.fresh_kinds(thing, name) + self._admitted(thing, name)
        return self.grow(thing, [(name, kinds[0])])

    def fresh_kinds(self, thing, name):
        """The admitted kinds of a link or list of a thing of which there is no thing so far."""
        so_far = self.kinds_so_far()
        return [kind for kind in self._admitted(thing, name) if kind not in so_far]

    def _admitted(self, thing, name):
        """The admitted kinds of a link or list of a thing."""
        field = self.house.field_of(self.kind_of(thing), name)
        return self.house.admitted(field.target)

    def kind_of(self, thing):
        """The kind of a thing."""
        return self._things[thing][0]

    def used_slots(self, thing):
        """The links and lists of a thing that hold something, in order."""
        kind, values = self._things[thing]
        return [name for name in self.house.slots_of(kind) if name in values]

    def kinds_so_far(self):
        """The kinds of all things, in order."""
        return [kind for kind, _ in self._things]

    def give_marks(self, thing, marks):
        """Gives a thing these marks, a dict by names."""
        values = self._things[thing][1]
        for name in marks:
            values[name] = marks[name]

    def finished(self):
        """The web as it is now."""
        return Web(self.house, self._things)
