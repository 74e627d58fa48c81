"""Reading saved texts, and travels that bring what was sent."""

from waypairs.editions import led
from waypairs.errors import BadSaved, BadTravel
from waypairs.savedlines import SavedLines
from waypairs.webs import Web


def _values_read(house, kind, values, places):
    """The values of a thing; places are the numbers of the things that are referred to by name."""
    read = {}
    for field in house.fields_of(kind):
        value = values[field.name]
        if field.mode != "mark":
            value = [places[found] if isinstance(found, tuple) else found for found in value]
            if field.mode == "link":
                value = value[0] if value else None
        read[field.name] = value
    return read


def read_saved(house, text, *, known=None):
    """The web whose saved text this is; known is a register of the things that it may refer to by name."""
    lines = SavedLines(house, known)
    for at, line in enumerate(text.split("\n")):
        if not lines.take(line):
            raise BadSaved(at)
    if lines.lacks_lines():
        raise BadSaved(len(lines.rows))
    places = {named: len(lines.rows) + at for at, named in enumerate(lines.named)}
    things = [(kind, _values_read(house, kind, values, places)) for kind, values in lines.rows]
    for kind, key in lines.named:
        things.append((kind, known.values_of(kind, key)))
    return Web(house, things)


def brought(travel, text, known):
    """The web in the target of a saving travel whose text was sent, with a register of the web that was sent."""
    if not travel.is_saving:
        raise BadTravel(None, None)
    return led(read_saved(travel.source, text, known=known), travel.target)
