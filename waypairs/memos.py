"""Memos: what a walk keeps of the things that it has copied."""


def memo_key(rule, thing, kind, marks):
    """The key by which a memo knows a thing of this kind with these marks, or None if it never does."""
    if rule == "itself":
        return ("itself", thing)
    if rule == "marks":
        return ("marks", kind, tuple(marks))
    return None


class Memo:
    """The copies of things under their keys."""

    def __init__(self, number):
        self.number = number
        self._copies = {}

    def __len__(self):
        return len(self._copies)

    def __contains__(self, x):
        return x in self._copies

    def known(self, key):
        """What is kept under a key, or None."""
        return self._copies.get(key)

    def keep(self, key, new):
        """Keeps a number under a key, unless there is no key or something is kept under it already."""
        if key is not None and key not in self._copies:
            self._copies[key] = new

    def kept(self):
        """The pairs of a key and what is kept under it, in the order of keeping."""
        return list(self._copies.items())
