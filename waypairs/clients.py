"""Clients: what they need, cutting them, and their texts."""

from waypairs.clientlines import LENGTHS, LINES, ROOTS, is_client_name, is_line, known_names
from waypairs.errors import BadClient, BadText
from waypairs.forms import is_field_name, is_index, is_number_word
from waypairs.manners import Manners

PLACE_DIGITS = 31
MARK_DIGITS = 30
NOTHING = "-"
SETTING = ("mark", "link", "clear")


def check(client):
    """Raises unless any value is a client."""
    if not isinstance(client, (list, tuple)):
        raise BadClient(-1)
    known = {name: True for name in ROOTS}
    for at, line in enumerate(client[:LINES]):
        if not is_line(line, known):
            raise BadClient(at)
        if line[0] == "step":
            known[line[1]] = True
    if len(client) > LINES:
        raise BadClient(LINES)


def needed(client):
    """The manners that a client needs."""
    check(client)
    words = []
    if any([line[0] == "same" for line in client]):
        words.append("ask")
    if any(["old" in known_names(line) for line in client]):
        words.append("old")
    if any([line[0] in SETTING for line in client]):
        words.append("set")
    return Manners(*words)


def _is_kept(line, wanted, last, stepped):
    """Whether cutting keeps a line; stepped tells whether it has kept a step line behind it."""
    if line[0] == "step":
        return line[1] in wanted
    if line[0] == "mark":
        return last == "see"
    if line[0] in ("link", "clear"):
        return stepped or last in ("see", "step")
    return False


def cut(client, line):
    """The client in which this line is the last one, with those before it that matter for it."""
    check(client)
    if not is_index(line, len(client)):
        raise BadClient(line)
    last = client[line]
    kept = [last]
    wanted = {name: True for name in known_names(last)}
    stepped = False
    for earlier in reversed(list(client[:line])):
        if not _is_kept(earlier, wanted, last[0], stepped):
            continue
        kept.append(earlier)
        if earlier[0] == "step":
            stepped = True
            del wanted[earlier[1]]
        for name in known_names(earlier):
            wanted[name] = True
    return kept[::-1]


def _line_text(line):
    """The text of a line."""
    words = [str(word) for word in line if word is not None]
    if line[0] == "link" and line[3] is None:
        words.append(NOTHING)
    return " ".join(words)


def client_text(client):
    """The text of a client."""
    check(client)
    return "\n".join([_line_text(line) for line in client])


def _are_names(words):
    """Whether all words are names of a client."""
    return all([is_client_name(word) for word in words])


def _is_step_text(words):
    """Whether words have the form of a step line."""
    if len(words) not in (4, 5) or not _are_names(words[1:3]) or words[1] in ROOTS or not is_field_name(words[3]):
        return False
    return len(words) == 4 or is_number_word(words[4], PLACE_DIGITS)


def _is_line_text(words):
    """Whether words have the form of a line of a client."""
    word = words[0]
    if word == "step":
        return _is_step_text(words)
    if LENGTHS.get(word) != len(words):
        return False
    if word in ("see", "same"):
        return _are_names(words[1:])
    if not is_client_name(words[1]) or not is_field_name(words[2]):
        return False
    if word == "mark":
        return is_number_word(words[3], MARK_DIGITS)
    return word == "clear" or words[3] == NOTHING or is_client_name(words[3])


def _read_line(words):
    """The line that words of the right form tell."""
    if words[0] == "step":
        place = int(words[4]) if len(words) == 5 else None
        return ("step", words[1], words[2], words[3], place)
    if words[0] == "mark":
        return ("mark", words[1], words[2], int(words[3]))
    if words[0] == "link" and words[3] == NOTHING:
        return ("link", words[1], words[2], None)
    return tuple(words)


def read_client(text):
    """The client with this text."""
    if not isinstance(text, str):
        raise BadText(-1)
    lines = [] if text == "" else [line.split(" ") for line in text.split("\n")]
    for at, words in enumerate(lines):
        if not _is_line_text(words):
            raise BadText(at)
    client = [_read_line(words) for words in lines]
    check(client)
    return client
