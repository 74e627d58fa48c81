"""The lines of clients: when a value is a line, and which known names stand in it."""

from waypairs.forms import is_field_name, is_integer, is_mark_value, is_word

LINES = 200
NAME_LETTERS = 6
MOST_PLACE = 10 ** 30
ROOTS = ("here", "old")
LENGTHS = {"step": 5, "see": 2, "same": 3, "mark": 4, "link": 4, "clear": 3}


def is_client_name(value):
    """Whether any value is a name of a client."""
    return is_word(value, NAME_LETTERS)


def _is_place(value):
    """Whether any value can stand in the place of a step line."""
    return value is None or (is_integer(value) and 0 <= value <= MOST_PLACE)


def _is_known(name, known):
    """Whether any value is one of the known names, the keys of a dict."""
    return isinstance(name, str) and name in known


def is_line(line, known):
    """Whether any value is a line in which the keys of the dict known are the known names."""
    if not isinstance(line, tuple) or not line or not isinstance(line[0], str):
        return False
    word = line[0]
    if LENGTHS.get(word) != len(line):
        return False
    if word == "step":
        named = is_client_name(line[1]) and line[1] not in ROOTS
        return named and _is_known(line[2], known) and is_field_name(line[3]) and _is_place(line[4])
    if not _is_known(line[1], known):
        return False
    if word == "see":
        return True
    if word == "same":
        return _is_known(line[2], known)
    if not is_field_name(line[2]):
        return False
    if word == "mark":
        return is_mark_value(line[3])
    return word == "clear" or line[3] is None or _is_known(line[3], known)


def known_names(line):
    """The names that stand in a right line in the place of a known name."""
    word = line[0]
    if word == "step":
        return [line[2]]
    if word == "same":
        return [line[1], line[2]]
    if word == "link" and line[3] is not None:
        return [line[1], line[3]]
    return [line[1]]
