"""The texts of houses and webs."""

from waypairs.errors import BadText
from waypairs.forms import is_field_name, is_kind_name, is_number_word
from waypairs.kinds import ANY, Field, House, Kind
from waypairs.webs import Web

NUMBER_DIGITS = 30
NOTHING = "-"


def _kind_line(kind):
    """The line of a kind."""
    words = ["kind", kind.name]
    if kind.base is not None:
        words.extend(["of", kind.base])
    if kind.frozen:
        words.append("frozen")
    if kind.heirs:
        words.append("heirs")
    if kind.key is not None:
        words.extend(["key", kind.key])
    if kind.registered:
        words.append("registered")
    return " ".join(words)


def _field_line(field):
    """The line of a field."""
    last = str(field.default) if field.mode == "mark" else field.target
    words = [field.mode, field.name, last]
    if field.was:
        words.extend(["was", *field.was])
    return " ".join(words)


def house_text(house):
    """The text of a house."""
    lines = [f"house {house.root}"]
    for name in house.names:
        kind = house.kind_named(name)
        lines.append(_kind_line(kind))
        lines.extend([_field_line(field) for field in kind.fields])
    return "\n".join(lines)


def _value_word(value):
    """The value of a field as a word."""
    if value is None or value == []:
        return NOTHING
    if isinstance(value, list):
        return ",".join([str(number) for number in value])
    return str(value)


def web_text(web):
    """The text of a web."""
    lines = [f"web {web.here}" if web.old is None else f"web {web.here} {web.old}"]
    for kind, values in web.things():
        words = ["thing", kind]
        words.extend([f"{name}={_value_word(value)}" for name, value in values.items()])
        lines.append(" ".join(words))
    return "\n".join(lines)


def _lines_of(text):
    """The lines of a text, each as a list of its words; raises for what is no string."""
    if not isinstance(text, str):
        raise BadText(-1)
    return [line.split(" ") for line in text.split("\n")]


def _word_at(words, at):
    """The word at a place of a line, the empty one behind its end."""
    return words[at] if at < len(words) else ""


def _kind_parts(words):
    """The parts of a kind line as a dict, or None if the words have not its form."""
    if words[0] != "kind" or not is_kind_name(_word_at(words, 1)):
        return None
    parts = {"base": None, "frozen": False, "heirs": False, "key": None, "registered": False}
    at = 2
    if _word_at(words, at) == "of":
        parts["base"] = _word_at(words, at + 1)
        if not is_kind_name(parts["base"]):
            return None
        at += 2
    for part in ("frozen", "heirs"):
        if _word_at(words, at) == part:
            parts[part] = True
            at += 1
    if _word_at(words, at) == "key":
        parts["key"] = _word_at(words, at + 1)
        if not is_field_name(parts["key"]):
            return None
        at += 2
    if _word_at(words, at) == "registered":
        parts["registered"] = True
        at += 1
    return parts if at == len(words) else None


def _is_field_line(words):
    """Whether words have the form of a field line."""
    if len(words) < 3 or not is_field_name(words[1]):
        return False
    if words[0] == "mark":
        fits = is_number_word(words[2], NUMBER_DIGITS)
    else:
        fits = words[0] in ("link", "list") and (words[2] == ANY or is_kind_name(words[2]))
    if not fits or len(words) == 3:
        return fits
    return words[3] == "was" and len(words) in (5, 6) and all([is_field_name(former) for former in words[4:]])


def _is_house_line(words):
    """Whether words have the form of the first line of a house."""
    return len(words) == 2 and words[0] == "house" and is_kind_name(words[1])


def _check_house_lines(lines):
    """Raises for the first line that does not have the form of its place."""
    for at, words in enumerate(lines):
        if at == 0:
            fits = _is_house_line(words)
        else:
            fits = _kind_parts(words) is not None or (at > 1 and _is_field_line(words))
        if not fits:
            raise BadText(at)


def _made_field(words):
    """The field of a field line."""
    was = words[4:]
    if words[0] == "mark":
        return Field(words[1], "mark", default=int(words[2]), was=was)
    return Field(words[1], words[0], target=words[2], was=was)


def _made_kind(words, fields):
    """The kind of a kind line, with these own fields."""
    parts = _kind_parts(words)
    return Kind(words[1], fields, base=parts["base"], frozen=parts["frozen"], heirs=parts["heirs"],
                key=parts["key"], registered=parts["registered"])


def read_house(text):
    """The house with this text."""
    lines = _lines_of(text)
    _check_house_lines(lines)
    kinds = []
    opened = None
    fields = []
    for words in lines[1:]:
        if words[0] != "kind":
            fields.append(_made_field(words))
            continue
        if opened is not None:
            kinds.append(_made_kind(opened, fields))
        opened = words
        fields = []
    if opened is not None:
        kinds.append(_made_kind(opened, fields))
    return House(lines[0][1], kinds)


def _is_web_line(words):
    """Whether words have the form of the first line of a web."""
    if len(words) not in (2, 3) or words[0] != "web":
        return False
    return all([is_number_word(word, NUMBER_DIGITS) for word in words[1:]])


def _is_value_word(mode, word):
    """Whether a word has the form of a value of this mode."""
    if mode != "mark" and word == NOTHING:
        return True
    numbers = word.split(",") if mode == "list" else [word]
    return all([is_number_word(number, NUMBER_DIGITS) for number in numbers])


def _is_thing_line(house, words):
    """Whether words have the form of the line of a thing of the house."""
    if len(words) < 2 or words[0] != "thing" or words[1] not in house:
        return False
    modes = {field.name: field.mode for field in house.fields_of(words[1])}
    seen = {}
    for word in words[2:]:
        # A word without the sign has an empty value, which has no form.
        name, _, value = word.partition("=")
        if name not in modes or name in seen or not _is_value_word(modes[name], value):
            return False
        seen[name] = True
    return True


def _read_value(mode, word):
    """The value of this mode that a word of the right form tells."""
    if mode == "list":
        return [] if word == NOTHING else [int(number) for number in word.split(",")]
    return None if word == NOTHING else int(word)


def _made_thing(house, words):
    """The pair (kind, values) of the line of a thing."""
    values = {}
    for word in words[2:]:
        name, _, value = word.partition("=")
        values[name] = _read_value(house.field_of(words[1], name).mode, value)
    return (words[1], values)


def read_web(house, text):
    """The web of this house with this text."""
    lines = _lines_of(text)
    for at, words in enumerate(lines):
        fits = _is_web_line(words) if at == 0 else _is_thing_line(house, words)
        if not fits:
            raise BadText(at)
    here = int(lines[0][1])
    old = int(lines[0][2]) if len(lines[0]) == 3 else None
    return Web(house, [_made_thing(house, words) for words in lines[1:]], here=here, old=old)
