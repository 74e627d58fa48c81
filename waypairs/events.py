"""The events of walks: what they tell of the entries, judging them, and their texts."""

from waypairs.errors import BadText, Endless, TooLarge
from waypairs.forms import is_count_word, is_integer
from waypairs.walk import Walk

NUMBER_DIGITS = 9
# How many numbers stand behind the word of an event.
NUMBERS = {"enter": 3, "known": 2, "stays": 1, "named": 2, "leave": 1}


def entries(events):
    """The copies of each thing that was entered, in the order of making; the things in that of the first entries."""
    copies = {}
    for event in events:
        if event[0] == "enter":
            made = copies.setdefault(event[1], [])
            made.append(event[2])
    return copies


def most_open(events):
    """The greatest number of entries that were not left at one time."""
    most = 0
    count = 0
    for event in events:
        if event[0] == "enter":
            count += 1
        elif event[0] == "leave":
            count -= 1
        most = max(most, count)
    return most


def walk_events(heap, travel):
    """Generates the events of a walk, which begins when the first one is asked for."""
    walk = Walk(heap, travel)
    event = walk.step()
    while event is not None:
        yield event
        event = walk.step()


def _next_event(walk):
    """The event that is due in a walk, None if it is over or raises an error."""
    try:
        return walk.step()
    except (Endless, TooLarge):
        return None


def _is_event(value, due):
    """Whether any value is the event that is due; no value is where none is due."""
    if due is None or not isinstance(value, tuple):
        return False
    return all([is_integer(number) for number in value[1:]]) and value == due


def walk_fault(heap, travel, events):
    """None if a list of any values is what a walk over the heap tells, otherwise the index of the first wrong one."""
    walk = Walk(heap.copied(), travel)
    for at, value in enumerate(events):
        if not _is_event(value, _next_event(walk)):
            return at
    return len(events) if walk.result is None else None


def written(events):
    """The text of events, a line for each."""
    return "\n".join([" ".join([str(part) for part in event]) for event in events])


def _read_event(words):
    """The event that the words of a line tell, None if they have not the form of one."""
    if NUMBERS.get(words[0]) != len(words) - 1:
        return None
    if not all([is_count_word(word, NUMBER_DIGITS) for word in words[1:]]):
        return None
    numbers = [int(word) for word in words[1:]]
    return (words[0], *numbers)


def read_events(text):
    """The events with this text."""
    if not isinstance(text, str):
        raise BadText(-1)
    lines = [] if text == "" else text.split("\n")
    events = []
    for at, line in enumerate(lines):
        event = _read_event(line.split(" "))
        if event is None:
            raise BadText(at)
        events.append(event)
    return events
