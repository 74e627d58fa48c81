"""Tables of tuples (part, number), as their judges look at them."""

from waypairs.forms import is_integer


def wrong_entry(table, is_part):
    """The first index, in a list of any values, of what is no part with an integer from 0 on, or repeats a part."""
    seen = {}
    for at, entry in enumerate(table):
        if not isinstance(entry, tuple) or len(entry) != 2 or not is_part(entry[0]):
            return at
        part, number = entry
        if not is_integer(number) or number < 0 or part in seen:
            return at
        seen[part] = True
    return None
