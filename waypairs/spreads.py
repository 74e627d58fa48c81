"""Spreads: many things that a walk enters from one thing on, in one memo."""


def going_slots(graph, kind):
    """The links and lists that go, of an entered kind, in order."""
    names = []
    for name, _ in graph.going_from(kind):
        if name not in names:
            names.append(name)
    return names


def turning_slots(graph, kind):
    """The links and lists by which going steps from an entered kind back to it can begin."""
    return [name for name in going_slots(graph, kind) if kind in graph.ahead_by(kind, name)]


def by_lists(graph, kind):
    """The tuples (kind, list, end): going steps lead from the kind on by way of this list to the end."""
    found = []
    for begin in graph.ahead_of(kind):
        for name in going_slots(graph, begin):
            if graph.is_list(begin, name):
                found.extend([(begin, name, end) for end in graph.ahead_by(begin, name)])
    return found


def by_branches(graph, kind):
    """The tuples (kind, turning, branch, end): a ring of the kind begins by one field, a way to the end by another."""
    found = []
    for begin in graph.ahead_of(kind):
        for turning in turning_slots(graph, begin):
            for branch in going_slots(graph, begin):
                if branch != turning:
                    found.extend([(begin, turning, branch, end) for end in graph.ahead_by(begin, branch)])
    return found


def spreads_of(graph, kind):
    """The spreads of an entered kind, in the graph of a walk that always ends."""
    ends = [row[2] for row in by_lists(graph, kind)] + [row[3] for row in by_branches(graph, kind)]
    found = [("spread", other, None) for other in graph.met(kind) if other in ends]
    # Some kind of each ring is known, because the walk ends: so the kinds on rings that are never known are just those
    # to which the fields of known kinds pass the ring on.
    for other in graph.ahead_of(kind):
        found.extend([("spread", other, name) for name in turning_slots(graph, other)])
    return found
