"""Editions of a house, and leading a web from one to another."""

from waypairs.errors import BadReader
from waypairs.webs import Web


def _fits(field, other):
    """Whether a field of the reader can take another one, of the writer."""
    return field.mode == other.mode and field.target == other.target and field.default == other.default


def source_field(writer, reader, kind, field):
    """The name of the writer's field that a field of the reader takes, or None."""
    taking = reader.field_of(kind, field)
    fields = writer.fields_of(kind)
    for name in (taking.name, *taking.was):
        for other in fields:
            if other.name == name and _fits(taking, other):
                return name
    return None


def _is_kept(writer, reader, name, other):
    """Whether the reader's kind at a place, other, is the writer's kind there, but for the fields."""
    kind = writer.kind_named(name)
    new = reader.kind_named(other)
    if kind.name != new.name or kind.base != new.base or kind.key != new.key:
        return False
    if kind.frozen != new.frozen or kind.heirs != new.heirs or kind.registered != new.registered:
        return False
    return not kind.registered or writer.fields_of(name) == reader.fields_of(name)


def _takes_twice(writer, reader, kind):
    """Whether two fields of a kind of the reader take the same field of the writer."""
    taken = [source_field(writer, reader, kind, field.name) for field in reader.fields_of(kind)]
    return any([taken.count(name) > 1 for name in taken if name is not None])


def reader_fault(writer, reader):
    """None if the reader is an edition of the writer, otherwise the name of the kind that is wrong."""
    for at, name in enumerate(writer.names):
        if at >= len(reader) or not _is_kept(writer, reader, name, reader.names[at]):
            return name
    if len(reader) > len(writer):
        return reader.names[len(writer)]
    if reader.root != writer.root:
        return writer.root
    for name in reader.names:
        if _takes_twice(writer, reader, name):
            return name
    return None


def led(web, reader):
    """The web in another edition."""
    wrong = reader_fault(web.house, reader)
    if wrong is not None:
        raise BadReader(wrong)
    sources = {}
    for kind in reader.names:
        names = [field.name for field in reader.fields_of(kind)]
        sources[kind] = {name: source_field(web.house, reader, kind, name) for name in names}
    things = []
    for kind, values in web.things():
        taken = sources[kind]
        things.append((kind, {name: values[taken[name]] for name in taken if taken[name] is not None}))
    return Web(reader, things, here=web.here, old=web.old)
