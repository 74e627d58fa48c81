"""Fields along a row, and tables of fields between editions."""

from waypairs.editions import reader_fault, source_field
from waypairs.errors import BadReader, BadRow
from waypairs.rows import first_unfit


def slots(row, kind, field):
    """The names of the fields that hold the later value of a home field, from level 0 on, None where there is none."""
    row.home.field_of(kind, field)
    found = [field]
    for travel in reversed(list(row.travels)):
        later = found[-1]
        found.append(None if later is None else source_field(travel.source, travel.target, kind, later))
    return found[::-1]


def astray(row, kind, field):
    """Whether what a home field held at home is not what it holds at the end."""
    return slots(row, kind, field)[0] != field


def _fate_of_slot(travel, kind, slot):
    """The fate that a travel has for a slot of a home field."""
    return "lost" if slot is None else travel.fate(kind, slot)


def fates_along(row, kind, field):
    """The fates of a home field at all travels of a row, in order."""
    found = slots(row, kind, field)
    return [_fate_of_slot(travel, kind, slot) for travel, slot in zip(row.travels, found)]


def kept_fields(row, kind):
    """The names of the kept fields of a kind, in order."""
    names = [field.name for field in row.home.fields_of(kind)]
    return [name for name in names if not astray(row, kind, name) and "lost" not in fates_along(row, kind, name)]


def fate_at(row, travel, kind, field):
    """The fate of a home field at a travel, given by its number."""
    chosen = row[travel]
    return _fate_of_slot(chosen, kind, slots(row, kind, field)[travel - 1])


def _taken_through(travel, kind, field):
    """The field of the source that a field of the target takes and that is not lost, or None."""
    source = source_field(travel.source, travel.target, kind, field)
    if source is None or travel.fate(kind, source) == "lost":
        return None
    return source


class FieldTable:
    """For each field of each kind of a reader the writer's field from which its value comes, or None."""

    def __init__(self, writer, reader, rows):
        self.writer = writer
        self.reader = reader
        # Tuples (kind, field, name or None), in the order of the reader's kinds and fields.
        self._rows = list(rows)
        self._sources = {(kind, field): name for kind, field, name in rows}

    @classmethod
    def between(cls, writer, reader):
        """The table of the fields that the reader, an edition of the writer, takes."""
        wrong = reader_fault(writer, reader)
        if wrong is not None:
            raise BadReader(wrong)
        rows = [(kind, field.name, source_field(writer, reader, kind, field.name))
                for kind in reader.names for field in reader.fields_of(kind)]
        return cls(writer, reader, rows)

    @classmethod
    def through(cls, travel):
        """The table of the fields that a travel brings from its source to its target."""
        rows = [(kind, field.name, _taken_through(travel, kind, field.name))
                for kind in travel.target.names for field in travel.target.fields_of(kind)]
        return cls(travel.source, travel.target, rows)

    @classmethod
    def along(cls, travels):
        """The table of the fields that travels, in a row or a list, bring from the first source to the last target."""
        following = list(travels)
        if not following:
            raise BadRow(0)
        unfit = first_unfit(following)
        if unfit is not None:
            raise BadRow(unfit)
        table = cls.through(following[0])
        for travel in following[1:]:
            table = table >> cls.through(travel)
        return table

    def __eq__(self, other):
        return (isinstance(other, FieldTable) and self._rows == other._rows and self.writer == other.writer
                and self.reader == other.reader)

    def __len__(self):
        return len(self._rows)

    def __iter__(self):
        return iter(self._rows)

    def __getitem__(self, at):
        kind, field = at
        self.reader.field_of(kind, field)
        return self._sources[kind, field]

    def __rshift__(self, other):
        if other.writer != self.reader:
            raise BadRow(2)
        rows = [(kind, field, None if name is None else self._sources[kind, name]) for kind, field, name in other._rows]
        return FieldTable(self.writer, other.reader, rows)

    @property
    def is_plain(self):
        """Whether every field has the field of its own name."""
        return all([field == name for _, field, name in self._rows])

    def _is_taken(self, kind, name):
        """Whether some field of a kind of the reader has a writer's field."""
        return name in [self._sources[kind, field.name] for field in self.reader.fields_of(kind)]

    def taken_of(self, kind):
        """The writer's fields of a kind that fields of the reader have, in order."""
        return [field.name for field in self.writer.fields_of(kind) if self._is_taken(kind, field.name)]

    def dropped_of(self, kind):
        """The writer's other fields of a kind, in order."""
        return [field.name for field in self.writer.fields_of(kind) if not self._is_taken(kind, field.name)]

    def added_of(self, kind):
        """The reader's fields of a kind that have no field of the writer, in order."""
        return [field.name for field in self.reader.fields_of(kind) if self._sources[kind, field.name] is None]
